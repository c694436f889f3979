import Derived.Test.YtijdphlejokijaaGreatERSENeed
import Derived.Test.YtijdphlejokijaaGreatERSEPoor
import Derived.Outline
namespace Go.Proofs.YtijdphlejokijaaGreat
open Go.Shelf Go.ChangeShapes Go.WideShapes Go.ChangeAt Go.RowKit
set_option linter.unusedVariables false
set_option linter.unusedSimpArgs false
attribute [local go_sem ↓] Go.wp_at_zero Go.wp_at_succ
attribute [local go_sem] Oper.semAt_some
theorem checkTrace_is (nm : ByteArray) (s : Int) (A B P : Option Addr) (gn gc dn dc pc : Nat) (E9 E : Int) (w : World) (h : Hid ((if 20000 < E9 then 8 else 0) = E)) :
    Calls Tryz.prog 33 #[.agg #[.string nm, .int .i64 s, .slice A gn gc, .slice B dn dc, .slice P (dn + 1) pc, .int .i64 E9]] w fun e w' => e = .returned (.int .i64 E) ∧ Below w.heap.size w w' := by
  by_cases hc : 20000 < E9
  · have hE : Hid (E = 8) := Lib.hid (by rw [← h.out, if_pos hc])
    clear h
    go_enter Tryz.func33, Tryz.ntmps33
    go_wp2
    go_ret
    exact ⟨ret_int hE.out.symm, (by (repeat (first | (with_reducible refine Below.drew ?_) | (with_reducible refine below_drewN ?_ _) | (with_reducible refine Below.alloc ?_ (by first | omega | (simp; done) | (simp; omega) | (simp at *; omega)) _) | (with_reducible refine Below.setCell ?_ (by first | omega | (simp; done) | (simp; omega) | (simp at *; omega)) _) | (with_reducible exact Below.refl _ _) | (with_reducible assumption) | (with_reducible refine Below.trans ?_ (Below.mono (by assumption) (by first | omega | (simp; done) | (simp; omega) | (simp at *; omega)))))))⟩
  · have hE : Hid (E = 0) := Lib.hid (by rw [← h.out, if_neg hc])
    clear h
    go_enter Tryz.func33, Tryz.ntmps33
    go_wp2
    go_ret
    exact ⟨ret_int hE.out.symm, (by (repeat (first | (with_reducible refine Below.drew ?_) | (with_reducible refine below_drewN ?_ _) | (with_reducible refine Below.alloc ?_ (by first | omega | (simp; done) | (simp; omega) | (simp at *; omega)) _) | (with_reducible refine Below.setCell ?_ (by first | omega | (simp; done) | (simp; omega) | (simp at *; omega)) _) | (with_reducible exact Below.refl _ _) | (with_reducible assumption) | (with_reducible refine Below.trans ?_ (Below.mono (by assumption) (by first | omega | (simp; done) | (simp; omega) | (simp at *; omega)))))))⟩
theorem checkSecond_is (nm : ByteArray) (s : Int) (A B P : Option Addr) (gn gc dn dc pc : Nat) (E9 t E : Int) (w : World) (h : Hid (rngE t 0 E9 = E)) :
    Calls Tryz.prog 46 #[.agg #[.string nm, .int .i64 s, .slice A gn gc, .slice B dn dc, .slice P (dn + 1) pc, .int .i64 E9], .int .i64 t] w fun e w' => e = .returned (.int .i64 E) ∧ Below w.heap.size w w' := by
  go_enter Tryz.func46, Tryz.ntmps46
  go_wp2_with fail
  refine (cRange_is t 0 E9 E _ h).mono ?_
  rintro e w' ⟨rfl, rfl⟩
  go_wp2
  go_ret
  exact ⟨rfl, (by (repeat (first | (with_reducible refine Below.drew ?_) | (with_reducible refine below_drewN ?_ _) | (with_reducible refine Below.alloc ?_ (by first | omega | (simp; done) | (simp; omega) | (simp at *; omega)) _) | (with_reducible refine Below.setCell ?_ (by first | omega | (simp; done) | (simp; omega) | (simp at *; omega)) _) | (with_reducible exact Below.refl _ _) | (with_reducible assumption) | (with_reducible refine Below.trans ?_ (Below.mono (by assumption) (by first | omega | (simp; done) | (simp; omega) | (simp at *; omega)))))))⟩
theorem needs_is (nm : ByteArray) (s : Int) (A B P : Option Addr) (gn gc dn dc pc : Nat) (E9 : Int) (r : Ru) (AT : Option Addr) (tn tc : Nat) (t : Int) (w : World) :
    Calls Tryz.prog 34 #[.agg #[.string nm, .int .i64 s, .slice A gn gc, .slice B dn dc, .slice P (dn + 1) pc, .int .i64 E9], .agg #[.slice AT tn tc, .int .i64 r.a, .int .i64 r.b, .int .i64 r.nc, .int .i64 r.dn, .int .i64 r.br, .int .i64 r.em, .int .i64 r.pa, .int .i64 r.sc], .int .i64 t] w fun e w' => e = .returned (.func (.func 59) #[] #[.pointer (some ⟨w.heap.size + 1 + 1, 0, none⟩), .pointer (some ⟨w.heap.size, 0, none⟩), .pointer (some ⟨w.heap.size + 1, 0, none⟩)]) ∧ ((w.alloc (.cells #[.string nm, .int .i64 s, .slice A gn gc, .slice B dn dc, .slice P (dn + 1) pc, .int .i64 E9] 70)).alloc (.cells #[.slice AT tn tc, .int .i64 r.a, .int .i64 r.b, .int .i64 r.nc, .int .i64 r.dn, .int .i64 r.br, .int .i64 r.em, .int .i64 r.pa, .int .i64 r.sc] 30)).alloc (.cells #[.int .i64 t] 3) = w' := by
  go_enter Tryz.func34, Tryz.ntmps34
  go_wp2
  go_ret
  exact ⟨rfl, rfl⟩
theorem cFirst4B (x y z v E : Int) (b : Nat) (w : World) {B : Nat} (hE : Hid (firE [x, y, z, v] = E)) (h : BlkF w B b [.int .i64 x, .int .i64 y, .int .i64 z, .int .i64 v]) : Calls Tryz.prog 31 #[.slice (some ⟨b, 0, none⟩) 4 4] w fun e w' => e = .returned (.int .i64 E) ∧ Below w.heap.size w w' := by
  rw [← hE.out]
  exact cFirstB [x, y, z, v] b 0 4 w rfl (by simp) (by simp) (blk_ints (l := [x, y, z, v]) h)
set_option maxRecDepth 100000 in
set_option maxHeartbeats 8000000 in
theorem NeedAt_ok (nm : ByteArray) (s : Int) (G : List Ga) (D : List Le) (A B : Option Addr) (gn gc dn dc N0 : Nat) (T : List Ox) (r : Ru) (AT : Option Addr) (tn tc : Nat) (t am : Int) (kk gk : Nat) (w : World) (hz : nm.size ≤ 9223372036854775807) (hgn : Hid (gn = G.length)) (hgl : gn ≤ 9223372036854775807) (hdn : Hid (dn = D.length)) (hdl : dn ≤ 9223372036854775807) (hG : Hid (SlRows gaV 2 w A G)) (hD : Hid (SlRows leV 3 w B D)) (hE0 : Hid (plnP nm s G D = (N0, 0)))
    (htn : Hid (tn = T.length)) (htl : tn ≤ 9223372036854775807) (hT : Hid (SlRows oxV 2 w AT T)) (hE1 : Hid (ruE T r = 0)) (hS9 : Hid (secT D dn ≤ 20000)) (hshort : Hid (∀ k, (legC s G D k).s ≤ 20000)) (hkk : kk < dn) (t0 : 0 ≤ t) (ht9 : Hid (t ≤ secT D dn)) (hbefore : Hid (∀ j, j < kk → endC s G D j < t)) (hbeg : Hid ((legC s G D kk).bs ≤ t)) (hend : Hid (t ≤ endC s G D kk)) (hgk : Hid ((legC s G D kk).g = gk))
    (ham : Hid ((conA r.br (legC s G D) gn (List.range kk)).getD gk 0 + nedV (legC s G D kk) r (t - (legC s G D kk).bs) = am)) :
    Calls Tryz.prog 25 #[.agg #[.string nm, .int .i64 s, .slice A gn gc, .slice B dn dc], .agg #[.slice AT tn tc, .int .i64 r.a, .int .i64 r.b, .int .i64 r.nc, .int .i64 r.dn, .int .i64 r.br, .int .i64 r.em, .int .i64 r.pa, .int .i64 r.sc], .int .i64 t] w fun e w' => e = .returned (.tuple #[.int .i64 gk, .int .i64 am, .int .i64 0]) ∧ Below w.heap.size w w' := by
  have hok := Lib.hid (pln_ok hE0.out)
  have hru := Lib.hid (ru_ok hE1.out)
  have t1 : t ≤ 20000 := Int.le_trans ht9.out hS9.out
  refine (callsIn_wide (n := 12)).1 ?_
  refine callsIn_of_wp_marks Tryz.func25 rfl trivial ?_ rfl
  simp only [Tryz.ntmps25, List.size_toArray, List.length_cons, List.length_nil, Nat.reduceAdd, Nat.reduceSub, Array.replicate_succ, Array.replicate_zero, List.push_toArray, List.append_toArray, List.nil_append, List.cons_append]
  gi_wp2_with fail
  have hb0 : Below w.heap.size w (((((w.alloc (.cells #[.string nm, .int .i64 s, .slice A gn gc, .slice B dn dc] 25)).alloc (.cells #[.slice AT tn tc, .int .i64 r.a, .int .i64 r.b, .int .i64 r.nc, .int .i64 r.dn, .int .i64 r.br, .int .i64 r.em, .int .i64 r.pa, .int .i64 r.sc] 30)).alloc (.cells #[.int .i64 0] 3)).alloc (.cells #[.int .i64 0] 3)).alloc (.cells #[.int .i64 0] 35)) := (((((Below.refl _ _).alloc (Nat.le_refl _) _).alloc (by simp) _).alloc (by simp <;> omega) _).alloc (by simp <;> omega) _).alloc (by simp <;> omega) _
  have q12 : Below ((w.alloc (.cells #[.string nm, .int .i64 s, .slice A gn gc, .slice B dn dc] 25)).alloc (.cells #[.slice AT tn tc, .int .i64 r.a, .int .i64 r.b, .int .i64 r.nc, .int .i64 r.dn, .int .i64 r.br, .int .i64 r.em, .int .i64 r.pa, .int .i64 r.sc] 30)).heap.size ((w.alloc (.cells #[.string nm, .int .i64 s, .slice A gn gc, .slice B dn dc] 25)).alloc (.cells #[.slice AT tn tc, .int .i64 r.a, .int .i64 r.b, .int .i64 r.nc, .int .i64 r.dn, .int .i64 r.br, .int .i64 r.em, .int .i64 r.pa, .int .i64 r.sc] 30)) (((((w.alloc (.cells #[.string nm, .int .i64 s, .slice A gn gc, .slice B dn dc] 25)).alloc (.cells #[.slice AT tn tc, .int .i64 r.a, .int .i64 r.b, .int .i64 r.nc, .int .i64 r.dn, .int .i64 r.br, .int .i64 r.em, .int .i64 r.pa, .int .i64 r.sc] 30)).alloc (.cells #[.int .i64 0] 3)).alloc (.cells #[.int .i64 0] 3)).alloc (.cells #[.int .i64 0] 35)) := (((Below.refl _ _).alloc (Nat.le_refl _) _).alloc (by simp) _).alloc (by simp <;> omega) _
  have q23 : Below (((w.alloc (.cells #[.string nm, .int .i64 s, .slice A gn gc, .slice B dn dc] 25)).alloc (.cells #[.slice AT tn tc, .int .i64 r.a, .int .i64 r.b, .int .i64 r.nc, .int .i64 r.dn, .int .i64 r.br, .int .i64 r.em, .int .i64 r.pa, .int .i64 r.sc] 30)).alloc (.cells #[.int .i64 0] 3)).heap.size (((w.alloc (.cells #[.string nm, .int .i64 s, .slice A gn gc, .slice B dn dc] 25)).alloc (.cells #[.slice AT tn tc, .int .i64 r.a, .int .i64 r.b, .int .i64 r.nc, .int .i64 r.dn, .int .i64 r.br, .int .i64 r.em, .int .i64 r.pa, .int .i64 r.sc] 30)).alloc (.cells #[.int .i64 0] 3)) (((((w.alloc (.cells #[.string nm, .int .i64 s, .slice A gn gc, .slice B dn dc] 25)).alloc (.cells #[.slice AT tn tc, .int .i64 r.a, .int .i64 r.b, .int .i64 r.nc, .int .i64 r.dn, .int .i64 r.br, .int .i64 r.em, .int .i64 r.pa, .int .i64 r.sc] 30)).alloc (.cells #[.int .i64 0] 3)).alloc (.cells #[.int .i64 0] 3)).alloc (.cells #[.int .i64 0] 35)) := ((Below.refl _ _).alloc (Nat.le_refl _) _).alloc (by simp) _
  have q34 : Below ((((w.alloc (.cells #[.string nm, .int .i64 s, .slice A gn gc, .slice B dn dc] 25)).alloc (.cells #[.slice AT tn tc, .int .i64 r.a, .int .i64 r.b, .int .i64 r.nc, .int .i64 r.dn, .int .i64 r.br, .int .i64 r.em, .int .i64 r.pa, .int .i64 r.sc] 30)).alloc (.cells #[.int .i64 0] 3)).alloc (.cells #[.int .i64 0] 3)).heap.size ((((w.alloc (.cells #[.string nm, .int .i64 s, .slice A gn gc, .slice B dn dc] 25)).alloc (.cells #[.slice AT tn tc, .int .i64 r.a, .int .i64 r.b, .int .i64 r.nc, .int .i64 r.dn, .int .i64 r.br, .int .i64 r.em, .int .i64 r.pa, .int .i64 r.sc] 30)).alloc (.cells #[.int .i64 0] 3)).alloc (.cells #[.int .i64 0] 3)) (((((w.alloc (.cells #[.string nm, .int .i64 s, .slice A gn gc, .slice B dn dc] 25)).alloc (.cells #[.slice AT tn tc, .int .i64 r.a, .int .i64 r.b, .int .i64 r.nc, .int .i64 r.dn, .int .i64 r.br, .int .i64 r.em, .int .i64 r.pa, .int .i64 r.sc] 30)).alloc (.cells #[.int .i64 0] 3)).alloc (.cells #[.int .i64 0] 3)).alloc (.cells #[.int .i64 0] 35)) := (Below.refl _ _).alloc (Nat.le_refl _) _
  have Zr := (BlkF.made (B := w.heap.size) (w.alloc (.cells #[.string nm, .int .i64 s, .slice A gn gc, .slice B dn dc] 25)) [.slice AT tn tc, .int .i64 r.a, .int .i64 r.b, .int .i64 r.nc, .int .i64 r.dn, .int .i64 r.br, .int .i64 r.em, .int .i64 r.pa, .int .i64 r.sc] 30 (by simp)).below q12
  have Zn := (BlkF.made (B := w.heap.size) ((w.alloc (.cells #[.string nm, .int .i64 s, .slice A gn gc, .slice B dn dc] 25)).alloc (.cells #[.slice AT tn tc, .int .i64 r.a, .int .i64 r.b, .int .i64 r.nc, .int .i64 r.dn, .int .i64 r.br, .int .i64 r.em, .int .i64 r.pa, .int .i64 r.sc] 30)) [.int .i64 0] 3 (by simp <;> omega)).below q23
  have Zm := (BlkF.made (B := w.heap.size) (((w.alloc (.cells #[.string nm, .int .i64 s, .slice A gn gc, .slice B dn dc] 25)).alloc (.cells #[.slice AT tn tc, .int .i64 r.a, .int .i64 r.b, .int .i64 r.nc, .int .i64 r.dn, .int .i64 r.br, .int .i64 r.em, .int .i64 r.pa, .int .i64 r.sc] 30)).alloc (.cells #[.int .i64 0] 3)) [.int .i64 0] 3 (by simp <;> omega)).below q34
  have Ze := BlkF.made (B := w.heap.size) ((((w.alloc (.cells #[.string nm, .int .i64 s, .slice A gn gc, .slice B dn dc] 25)).alloc (.cells #[.slice AT tn tc, .int .i64 r.a, .int .i64 r.b, .int .i64 r.nc, .int .i64 r.dn, .int .i64 r.br, .int .i64 r.em, .int .i64 r.pa, .int .i64 r.sc] 30)).alloc (.cells #[.int .i64 0] 3)).alloc (.cells #[.int .i64 0] 3)) [.int .i64 0] 35 (by simp <;> omega)
  simp only [World.size_alloc] at Zr Zn Zm Ze
  clear q12 q23 q34
  refine ⟨trivial, callsIn_world (fun X => Below w.heap.size w X ∧ BlkF X w.heap.size (w.heap.size + 1) [.slice AT tn tc, .int .i64 r.a, .int .i64 r.b, .int .i64 r.nc, .int .i64 r.dn, .int .i64 r.br, .int .i64 r.em, .int .i64 r.pa, .int .i64 r.sc] ∧ BlkF X w.heap.size (w.heap.size + 1 + 1) [.int .i64 0] ∧ BlkF X w.heap.size (w.heap.size + 1 + 1 + 1) [.int .i64 0] ∧ BlkF X w.heap.size (w.heap.size + 1 + 1 + 1 + 1) [.int .i64 0]) ⟨hb0, Zr, Zn, Zm, Ze⟩ (fun x0 hx0 => ?_)⟩
  clear Zr Zn Zm Ze hb0
  obtain ⟨hb0, Zr, Zn, Zm, Ze⟩ := hx0
  refine (callsIn_wide.2 (follow_any nm s G D A B gn gc dn dc N0 0 x0 hz hgn hgl hdn hdl (Lib.hid (hG.out.below hb0)) (Lib.hid (hD.out.below hb0)) hE0)).mono ?_
  rintro e x1 h
  obtain ⟨_, P, pc, E9, rfl, hP, hE9', hb1⟩ := h.resolve_left (fun h => h.1 rfl)
  clear h
  have hE9 : Hid ((if 20000 < E9 then 8 else 0) = (0 : Int)) := Lib.hid (by rw [if_neg]; have := hS9.out; omega)
  have hE8 : Hid (rngE t 0 E9 = 0) := Lib.hid (rngE_t (inB_true t0 (by have := ht9.out; omega)))
  have hB1 := hb0.trans (hb1.mono hb0.size)
  replace Zr := Zr.below hb1
  replace Zn := Zn.below hb1
  replace Zm := Zm.below hb1
  replace Ze := Ze.below hb1
  have HP := Lib.hid hP
  obtain ⟨rb, hrb⟩ : ∃ z, w.heap.size + 1 = z := ⟨_, rfl⟩
  obtain ⟨nb, hnb⟩ : ∃ z, rb + 1 = z := ⟨_, rfl⟩
  obtain ⟨mb, hmb⟩ : ∃ z, nb + 1 = z := ⟨_, rfl⟩
  obtain ⟨eb, heb⟩ : ∃ z, mb + 1 = z := ⟨_, rfl⟩
  rw [hrb] at Zr Zn Zm Ze ⊢
  rw [hnb] at Zn Zm Ze ⊢
  rw [hmb] at Zm Ze ⊢
  rw [heb] at Ze ⊢
  clear hb1 hb0 hP
  gi_upto_region 2 with (fail)
  refine ex_world (fun X => Below x1.heap.size x1 X ∧ BlkF X x1.heap.size x1.heap.size [.string nm, .int .i64 s, .slice A gn gc, .slice B dn dc, .slice P (dn + 1) pc, .int .i64 E9]) ⟨(Below.refl _ _).alloc (Nat.le_refl _) _, BlkF.made (B := x1.heap.size) x1 [.string nm, .int .i64 s, .slice A gn gc, .slice B dn dc, .slice P (dn + 1) pc, .int .i64 E9] 70 (Nat.le_refl _)⟩ (fun u hu => ?_)
  obtain ⟨hbu, Zf⟩ := hu
  have hBu := hB1.trans (hbu.mono hB1.size)
  replace Zr := Zr.below hbu
  replace Zn := Zn.below hbu
  replace Zm := Zm.below hbu
  replace Ze := Ze.below hbu
  have HPx := Lib.hid (HP.out.below hbu)
  obtain ⟨xf, hxf⟩ : ∃ z, x1.heap.size = z := ⟨_, rfl⟩
  rw [hxf] at Zf ⊢
  have lf := Zf.lt
  have lr := Zr.lt
  obtain ⟨f0, f1, f2, f3, f4, f5⟩ := b6 Zf
  obtain ⟨r0, r1, r2, r3, r4, r5, r6, r7, r8⟩ := b9 Zr
  have HTU : Hid (∀ y, Below u.heap.size u y → SlRows oxV 2 y AT T) := Lib.hid fun y hy => hT.out.below (hBu.trans (hy.mono hBu.size))
  have HS : Hid (∀ y, Below u.heap.size u y → y.cell? ⟨xf, 0, none⟩ = some (.string nm) ∧ y.cell? ⟨xf, 1, none⟩ = some (.int .i64 s) ∧ y.cell? ⟨xf, 2, none⟩ = some (.slice A gn gc) ∧ y.cell? ⟨xf, 3, none⟩ = some (.slice B dn dc) ∧ y.cell? ⟨xf, 4, none⟩ = some (.slice P (dn + 1) pc) ∧ y.cell? ⟨xf, 5, none⟩ = some (.int .i64 E9) ∧ y.cell? ⟨rb, 0, none⟩ = some (.slice AT tn tc) ∧ y.cell? ⟨rb, 1, none⟩ = some (.int .i64 r.a) ∧ y.cell? ⟨rb, 2, none⟩ = some (.int .i64 r.b) ∧ y.cell? ⟨rb, 3, none⟩ = some (.int .i64 r.nc) ∧ y.cell? ⟨rb, 4, none⟩ = some (.int .i64 r.dn) ∧ y.cell? ⟨rb, 5, none⟩ = some (.int .i64 r.br) ∧ y.cell? ⟨rb, 6, none⟩ = some (.int .i64 r.em) ∧ y.cell? ⟨rb, 7, none⟩ = some (.int .i64 r.pa) ∧ y.cell? ⟨rb, 8, none⟩ = some (.int .i64 r.sc)) := Lib.hid fun y hy => ⟨(hy.cell (p := ⟨xf, 0, none⟩) lf).trans f0, (hy.cell (p := ⟨xf, 1, none⟩) lf).trans f1, (hy.cell (p := ⟨xf, 2, none⟩) lf).trans f2, (hy.cell (p := ⟨xf, 3, none⟩) lf).trans f3, (hy.cell (p := ⟨xf, 4, none⟩) lf).trans f4, (hy.cell (p := ⟨xf, 5, none⟩) lf).trans f5, (hy.cell (p := ⟨rb, 0, none⟩) lr).trans r0, (hy.cell (p := ⟨rb, 1, none⟩) lr).trans r1, (hy.cell (p := ⟨rb, 2, none⟩) lr).trans r2, (hy.cell (p := ⟨rb, 3, none⟩) lr).trans r3, (hy.cell (p := ⟨rb, 4, none⟩) lr).trans r4, (hy.cell (p := ⟨rb, 5, none⟩) lr).trans r5, (hy.cell (p := ⟨rb, 6, none⟩) lr).trans r6, (hy.cell (p := ⟨rb, 7, none⟩) lr).trans r7, (hy.cell (p := ⟨rb, 8, none⟩) lr).trans r8⟩
  clear f0 f1 f2 f3 f4 f5 r0 r1 r2 r3 r4 r5 r6 r7 r8 lf lr hB1 HP hbu hxf
  refine wpIn_np ?_
  refine wpIn_wide.2 ?_
  refine wp_region_held_drew (S := (fun w' => w'.cell? ⟨xf, 0, none⟩ = some (.string nm) ∧ w'.cell? ⟨xf, 1, none⟩ = some (.int .i64 s) ∧ w'.cell? ⟨xf, 2, none⟩ = some (.slice A gn gc) ∧ w'.cell? ⟨xf, 3, none⟩ = some (.slice B dn dc) ∧ w'.cell? ⟨xf, 4, none⟩ = some (.slice P (dn + 1) pc) ∧ w'.cell? ⟨xf, 5, none⟩ = some (.int .i64 E9) ∧ w'.cell? ⟨rb, 0, none⟩ = some (.slice AT tn tc) ∧ w'.cell? ⟨rb, 1, none⟩ = some (.int .i64 r.a) ∧ w'.cell? ⟨rb, 2, none⟩ = some (.int .i64 r.b) ∧ w'.cell? ⟨rb, 3, none⟩ = some (.int .i64 r.nc) ∧ w'.cell? ⟨rb, 4, none⟩ = some (.int .i64 r.dn) ∧ w'.cell? ⟨rb, 5, none⟩ = some (.int .i64 r.br) ∧ w'.cell? ⟨rb, 6, none⟩ = some (.int .i64 r.em) ∧ w'.cell? ⟨rb, 7, none⟩ = some (.int .i64 r.pa) ∧ w'.cell? ⟨rb, 8, none⟩ = some (.int .i64 r.sc))) (by kernel_rfl) (HS.out _ (Below.refl _ _).drew) (fun hHeld => ?_)
  have hT0 : Below u.heap.size u u.drew := (Below.refl _ _).drew
  generalize hdr : u.drew = v0 at *
  clear hdr
  refine tkH 0 ⟨some 18, _, _, _, _, _⟩ ?_ rfl ?_ (by assumption) ?_
  rotate_left
  · (intro w hSw; (try dsimp only at hSw); go_simp; all_goals with_reducible rfl)
  try simp only [Act.put, sA, sB, sC]
  refine tkH 1 ⟨some 19, _, _, _, _, _⟩ ?_ rfl ?_ (by assumption) ?_
  rotate_left
  · (intro w hSw; (try dsimp only at hSw); go_simp; all_goals with_reducible rfl)
  try simp only [Act.put, sA, sB, sC]
  refine tkH 3 ⟨some 21, _, _, _, _, _⟩ ?_ rfl ?_ (by assumption) ?_
  rotate_left
  · (intro w hSw; (try dsimp only at hSw); go_simp; all_goals with_reducible rfl)
  try simp only [Act.put, sA, sB, sC]
  refine tkH 5 ⟨some 23, _, _, _, _, _⟩ ?_ rfl ?_ (by assumption) ?_
  rotate_left
  · (intro w hSw; (try dsimp only at hSw); go_simp; all_goals with_reducible rfl)
  try simp only [Act.put, sA, sB, sC]
  refine tkH 6 ⟨some 24, _, _, _, _, _⟩ ?_ rfl ?_ (by assumption) ?_
  rotate_left
  · (intro w hSw; (try dsimp only at hSw); go_simp; all_goals with_reducible rfl)
  try simp only [Act.put, sA, sB, sC]
  refine wpAnyH_ready (rs := [2]) (by kernel_rfl) (by simp) ?_
  refine AllReadyH.cons rfl (fun K hK => ?_) (AllReadyH.nil)
  go_simp
  refine (CheckRules_any T r AT tn tc 0 _ htn htl (HTU.out _ hT0) hE1).mono ?_
  rintro e v1 ⟨rfl, hbv0⟩
  have hT1 : Below u.heap.size u v1 := hT0.trans (hbv0.mono hT0.size)
  clear hbv0
  go_wp2_with fail
  refine hK.out _ _ (HS.out _ hT1) (fun hHeld => ?_)
  clear hK K
  try simp only [Act.put, sA, sB, sC]
  refine wpAnyH_ready (rs := [4]) (by kernel_rfl) (by simp) ?_
  refine AllReadyH.cons rfl (fun K hK => ?_) (AllReadyH.nil)
  go_simp
  refine (checkTrace_is nm s A B P gn gc dn dc pc E9 0 _ hE9).mono ?_
  rintro e v2 ⟨rfl, hbv1⟩
  have hT2 : Below u.heap.size u v2 := hT1.trans (hbv1.mono hT1.size)
  clear hbv1
  go_wp2_with fail
  refine hK.out _ _ (HS.out _ hT2) (fun hHeld => ?_)
  clear hK K
  try simp only [Act.put, sA, sB, sC]
  refine wpAnyH_ready (rs := [7]) (by kernel_rfl) (by simp) ?_
  refine AllReadyH.cons rfl (fun K hK => ?_) (AllReadyH.nil)
  go_simp
  refine (checkSecond_is nm s A B P gn gc dn dc pc E9 t 0 _ hE8).mono ?_
  rintro e v3 ⟨rfl, hbv2⟩
  have hT3 : Below u.heap.size u v3 := hT2.trans (hbv2.mono hT2.size)
  clear hbv2
  go_wp2_with fail
  refine hK.out _ _ (HS.out _ hT3) (fun hHeld => ?_)
  clear hK K
  try simp only [Act.put, sA, sB, sC]
  refine wpAnyH_ready (rs := [8]) (by kernel_rfl) (by simp) ?_
  refine AllReadyH.cons rfl (fun K hK => ?_) (AllReadyH.nil)
  go_simp
  go_wp2_with fail
  refine hK.out _ _ (HS.out _ (hT3.alloc hT3.size _)) (fun hHeld => ?_)
  clear hK K
  try simp only [Act.put, sA, sB, sC]
  have HNbz := Lib.hid (BlkF.made (B := u.heap.size) v3 [.int .i64 0, .int .i64 0, .int .i64 0, .int .i64 0] 35 hT3.size)
  have hbv3 : Below v3.heap.size v3 (v3.alloc (.cells #[.int .i64 0, .int .i64 0, .int .i64 0, .int .i64 0] 35)) := (Below.refl _ _).alloc (Nat.le_refl _) _
  have hnbz : u.heap.size ≤ v3.heap.size := hT3.size
  have exbz : ∃ x, v3.heap.size = x := ⟨_, rfl⟩
  generalize hq3 : v3.alloc (.cells #[.int .i64 0, .int .i64 0, .int .i64 0, .int .i64 0] 35) = v4 at *
  have hT4 : Below u.heap.size u v4 := hT3.trans (hbv3.mono hT3.size)
  obtain ⟨bz, ebz⟩ := exbz
  rw [ebz] at HNbz hnbz ⊢
  clear hbv3 hq3
  refine wpAnyH_ready (rs := [9]) (by kernel_rfl) (by simp) ?_
  refine AllReadyH.cons rfl (fun K hK => ?_) (AllReadyH.nil)
  go_simp
  refine (cFirst4B 0 0 0 0 0 bz _ (Lib.hid rfl) HNbz.out).mono ?_
  rintro e v5 ⟨rfl, hbv4⟩
  have hT5 : Below u.heap.size u v5 := hT4.trans (hbv4.mono hT4.size)
  replace HNbz := Lib.hid (HNbz.out.below hbv4)
  clear hbv4
  go_wp2_with fail
  refine hK.out _ _ (HS.out _ hT5) (fun hHeld => ?_)
  clear hK K
  try simp only [Act.put, sA, sB, sC]
  refine tkH 10 ⟨some 10, _, _, _, _, _⟩ ?_ rfl ?_ (by assumption) ?_
  rotate_left
  · (intro w hSw; (try dsimp only at hSw); go_simp; all_goals with_reducible rfl)
  try simp only [Act.put, sA, sB, sC]
  refine wpAnyH_done (by kernel_rfl) ?_ _
  obtain ⟨x3, rfl⟩ : ∃ z, z = v5 := ⟨_, rfl⟩
  have hT := hT5
  clear hHeld HS HNbz
  replace hBu := hBu.trans (hT.mono hBu.size)
  replace Zf := Zf.below hT
  replace Zr := Zr.below hT
  replace Zn := Zn.below hT
  replace Zm := Zm.below hT
  replace Ze := Ze.below hT
  replace HPx := Lib.hid (HPx.out.below hT)
  clear hT
  have l1 := Zf.lt
  have l2 := Zr.lt
  obtain ⟨f0, f1, f2, f3, f4, f5⟩ := b6 Zf
  obtain ⟨r0, r1, r2, r3, r4, r5, r6, r7, r8⟩ := b9 Zr
  gi_wp2_with fail
  refine ⟨trivial, (callsIn_wide.2 (needs_is nm s A B P gn gc dn dc pc E9 r AT tn tc t _)).mono ?_⟩
  rintro e W0 ⟨rfl, hW0⟩
  have hb0 : Below x3.heap.size x3 W0 := by rw [← hW0]; exact (((Below.refl _ _).alloc (Nat.le_refl _) _).alloc (by simp) _).alloc (by simp <;> omega) _
  have ZF : BlkF W0 0 x3.heap.size [.string nm, .int .i64 s, .slice A gn gc, .slice B dn dc, .slice P (dn + 1) pc, .int .i64 E9] := by rw [← hW0]; exact (BlkF.made (B := 0) x3 [.string nm, .int .i64 s, .slice A gn gc, .slice B dn dc, .slice P (dn + 1) pc, .int .i64 E9] 70 (Nat.zero_le _)).below (((Below.refl _ _).alloc (Nat.le_refl _) _).alloc (by simp) _)
  have ZR : BlkF W0 0 (x3.heap.size + 1) [.slice AT tn tc, .int .i64 r.a, .int .i64 r.b, .int .i64 r.nc, .int .i64 r.dn, .int .i64 r.br, .int .i64 r.em, .int .i64 r.pa, .int .i64 r.sc] := by
    rw [← hW0]
    have h := (BlkF.made (B := 0) (x3.alloc (.cells #[.string nm, .int .i64 s, .slice A gn gc, .slice B dn dc, .slice P (dn + 1) pc, .int .i64 E9] 70)) [.slice AT tn tc, .int .i64 r.a, .int .i64 r.b, .int .i64 r.nc, .int .i64 r.dn, .int .i64 r.br, .int .i64 r.em, .int .i64 r.pa, .int .i64 r.sc] 30 (Nat.zero_le _)).below ((Below.refl _ _).alloc (Nat.le_refl _) (.cells #[.int .i64 t] 3))
    simpa using h
  have ZS : BlkF W0 0 (x3.heap.size + 1 + 1) [.int .i64 t] := by
    rw [← hW0]
    have h := BlkF.made (B := 0) ((x3.alloc (.cells #[.string nm, .int .i64 s, .slice A gn gc, .slice B dn dc, .slice P (dn + 1) pc, .int .i64 E9] 70)).alloc (.cells #[.slice AT tn tc, .int .i64 r.a, .int .i64 r.b, .int .i64 r.nc, .int .i64 r.dn, .int .i64 r.br, .int .i64 r.em, .int .i64 r.pa, .int .i64 r.sc] 30)) [.int .i64 t] 3 (Nat.zero_le _)
    simpa using h
  have hsz : W0.heap.size = x3.heap.size + 3 := by rw [← hW0]; simp
  clear hW0 f0 f1 f2 f3 f4 f5 r0 r1 r2 r3 r4 r5 r6 r7 r8
  have hBW := hBu.trans (hb0.mono hBu.size)
  replace Zn := Zn.below hb0
  replace Zm := Zm.below hb0
  replace Ze := Ze.below hb0
  obtain ⟨bs, hbs0⟩ : ∃ bs, bs = x3.heap.size :: (bsO A G ++ bsO B D ++ bsO P (ptL D (dn + 1))) := ⟨_, rfl⟩
  have hM : FolM bs x3.heap.size nm s G D A B P gn gc dn dc pc E9 W0 := by
    obtain ⟨e0, e1, e2, e3, e4, e5⟩ := b6 ZF
    exact ⟨by rw [hbs0]; simp, ZF.lt, e0, e1, e2, e3, e4, e5, slk_of (hG.out.below hBW) (fun b hb => by rw [hbs0]; simp [hb]), slk_of (hD.out.below hBW) (fun b hb => by rw [hbs0]; simp [hb]), slk_of (HPx.out.below hb0) (fun b hb => by rw [hbs0]; simp [hb])⟩
  have hbs : ∀ b ∈ bs, b < W0.heap.size := by
    intro b hb
    rw [hbs0] at hb
    simp only [List.mem_cons, List.mem_append] at hb
    have hw := hBW.size
    rcases hb with rfl | (hb | hb) | hb
    · omega
    · have := bsO_lt hG.out b hb; omega
    · have := bsO_lt hD.out b hb; omega
    · have := bsO_lt HPx.out b hb; omega
  have HTT : Hid (SlRows oxV 2 W0 AT T) := Lib.hid (hT.out.below hBW)
  obtain ⟨N, hN⟩ : ∃ N, W0.heap.size = N := ⟨_, rfl⟩
  have ln := Zn.lt
  have lm := Zm.lt
  have le := Ze.lt
  gi_wp2
  refine wpIn_rangeFunc_pos (Kt := fun _ _ => True) (K2 := fun _ _ => False) (by decide) (gf := 59) (lb := #[.pointer (some ⟨x3.heap.size + 1 + 1, 0, none⟩), .pointer (some ⟨x3.heap.size, 0, none⟩), .pointer (some ⟨x3.heap.size + 1, 0, none⟩)]) rfl (enters_of Tryz.func59 (by kernel_rfl) rfl)
    (needs_once (12 - 1) (by decide) bs x3.heap.size (x3.heap.size + 1 + 1) (x3.heap.size + 1) nm s G D A B P gn gc dn dc pc E9 T r AT tn tc t am kk gk W0 hgn hdn hok hru hshort hM hbs ZS ZR htn HTT hkk t0 t1 hbefore hbeg hend hgk ham) (fun _ _ => trivial) (fun _ _ _ _ _ _ _ _ => trivial) (Below.refl _ _) (fun _ => rfl)
    (fun k X => k = 0 ∧ (BlkF X w.heap.size nb [.int .i64 0] ∧ BlkF X w.heap.size mb [.int .i64 0] ∧ BlkF X w.heap.size eb [.int .i64 0]) ∧ Below w.heap.size w X ∧ N ≤ X.heap.size)
    (fun c k X => (c = .ret ∧ (BlkF X w.heap.size nb [.int .i64 gk] ∧ BlkF X w.heap.size mb [.int .i64 am] ∧ BlkF X w.heap.size eb [.int .i64 0])) ∧ Below w.heap.size w X)
    (fun k X Y row hs hg hr => ⟨hs.1, ⟨blk_own (β := Unit) (by simp) () X Y row hs.2.1.1 hg hr, blk_own (β := Unit) (by simp) () X Y row hs.2.1.2.1 hg hr, blk_own (β := Unit) (by simp) () X Y row hs.2.1.2.2 hg hr⟩, ownFrom_below (β := Unit) (Nat.le_refl _) (by have := hBW.size; omega) () X Y row hs.2.2.1 hg hr, Nat.le_trans hs.2.2.2 hg.size⟩)
    (fun c k X Y row hs hg hr => ⟨⟨hs.1.1, blk_own (β := Unit) (by simp) () X Y row hs.1.2.1 hg hr, blk_own (β := Unit) (by simp) () X Y row hs.1.2.2.1 hg hr, blk_own (β := Unit) (by simp) () X Y row hs.1.2.2.2 hg hr⟩, ownFrom_below (β := Unit) (Nat.le_refl _) (by have := hBW.size; omega) () X Y row hs.2 hg hr⟩)
    (fun k X Y hs hb => ⟨hs.1, ⟨hs.2.1.1.low hb ln, hs.2.1.2.1.low hb lm, hs.2.1.2.2.low hb le⟩, hs.2.2.1.trans (hb.mono hBW.size), Nat.le_trans hs.2.2.2 hb.size⟩)
    (fun k X Y _ hs => absurd hs.1 (by omega))
    ⟨rfl, ⟨Zn, Zm, Ze⟩, hBW, by omega⟩
    (fun k a' X => ∃ Bx t0 t1 t2 t3 t4 t5 t9 t10 t13 t14 t15 t16 t17 t18 t19 t20 t21 t22 t23 t24 t25 t26 t27 t28 t29 t30 t31 t32 t33 t34 t35 t36 t37 t38 t39, N ≤ Bx ∧ BlkF X N Bx [.int .i64 am, .int .i64 t] ∧ a' = { tmps := #[t0, t1, t2, t3, t4, t5, .pointer (some ⟨nb, 0, none⟩), .pointer (some ⟨mb, 0, none⟩), .pointer (some ⟨eb, 0, none⟩), t9, t10, .int .i64 gk, .pointer (some ⟨Bx, 0, none⟩), t13, t14, t15, t16, t17, t18, t19, t20, t21, t22, t23, t24, t25, t26, t27, t28, t29, t30, t31, t32, t33, t34, t35, t36, t37, t38, t39], defers := [] })
    (fun k a' _ X Y row hs hg hr => by obtain ⟨Bx, t0, t1, t2, t3, t4, t5, t9, t10, t13, t14, t15, t16, t17, t18, t19, t20, t21, t22, t23, t24, t25, t26, t27, t28, t29, t30, t31, t32, t33, t34, t35, t36, t37, t38, t39, h1, h2, h3⟩ := hs; exact ⟨Bx, t0, t1, t2, t3, t4, t5, t9, t10, t13, t14, t15, t16, t17, t18, t19, t20, t21, t22, t23, t24, t25, t26, t27, t28, t29, t30, t31, t32, t33, t34, t35, t36, t37, t38, t39, h1, blk_own (β := Unit) (by simp) () X Y row h2 hg hr, h3⟩)
    ?assign ?body ?done ?stop
  case assign =>
    rintro l2 k X K hk hi hK
    have hNX : N ≤ X.heap.size := hi.2.2.2
    gi_wp2
    have hb9 : Below X.heap.size X (X.alloc (.cells #[.int .i64 am, .int .i64 t] 44)) := (Below.refl _ _).alloc (Nat.le_refl _) _
    refine hK _ _ (keepsFrom_below _ hb9) trivial ?_ ⟨X.heap.size, _, _, _, _, _, _, _, _, _, _, _, _, _, _, _, _, _, _, _, _, _, _, _, _, _, _, _, _, _, _, _, _, _, _, _, hNX, BlkF.made (B := N) X [.int .i64 am, .int .i64 t] 44 hNX, rfl⟩
    exact ⟨hi.1, ⟨hi.2.1.1.below hb9, hi.2.1.2.1.below hb9, hi.2.1.2.2.below hb9⟩, hi.2.2.1.trans (hb9.mono hi.2.2.1.size), Nat.le_trans hNX hb9.size⟩
  case body =>
    rintro l2 k a' X hl hk ⟨rfl, ⟨Zn, Zm, Ze⟩, hBX, hNX⟩ ⟨Bx, t0, t1, t2, t3, t4, t5, t9, t10, t13, t14, t15, t16, t17, t18, t19, t20, t21, t22, t23, t24, t25, t26, t27, t28, t29, t30, t31, t32, t33, t34, t35, t36, t37, t38, t39, hBx, HB2, rfl⟩
    obtain ⟨i0, i1⟩ := b2 HB2
    have lb := HB2.lt
    have HS : Hid (∀ y, Below X.heap.size X y → y.cell? ⟨Bx, 0, none⟩ = some (.int .i64 am)) := Lib.hid fun y hy => (hy.cell (p := ⟨Bx, 0, none⟩) lb).trans i0
    clear i0 i1
    gi_upto_region 8 with (fail)
    refine wpIn_np ?_
    refine wpIn_round_held (S := (fun w' => w'.cell? ⟨Bx, 0, none⟩ = some (.int .i64 am))) (by kernel_rfl) (by kernel_rfl) not_letsOut_np (HS.out _ (Below.refl _ _).drew) (fun hHeld => ?_)
    have hT0 : Below X.heap.size X X.drew := (Below.refl _ _).drew
    generalize hdr : X.drew = v0 at *
    clear hdr
    refine tkH 0 ⟨some 37, _, _, _, _, _⟩ ?_ rfl ?_ (by assumption) ?_
    rotate_left
    · (intro w hSw; (try dsimp only at hSw); go_simp; all_goals with_reducible rfl)
    try simp only [Act.put, sA, sB, sC]
    refine tkH 1 ⟨some 38, _, _, _, _, _⟩ ?_ rfl ?_ (by assumption) ?_
    rotate_left
    · (intro w hSw; (try dsimp only at hSw); go_simp; all_goals with_reducible rfl)
    try simp only [Act.put, sA, sB, sC]
    refine tkH 2 ⟨some 39, _, _, _, _, _⟩ ?_ rfl ?_ (by assumption) ?_
    rotate_left
    · (intro w hSw; (try dsimp only at hSw); go_simp; all_goals with_reducible rfl)
    try simp only [Act.put, sA, sB, sC]
    refine wpAnyH_ready (rs := [3]) (by kernel_rfl) (by simp) ?_
    refine AllReadyH.cons rfl (fun K hK => ?_) (AllReadyH.nil)
    have Fn := Zn.below hT0
    have Fm := Zm.below hT0
    have Fe := Ze.below hT0
    have FB := hBX.trans (hT0.mono hBX.size)
    have FK := keepsFrom_below N hT0
    have FS := HS.out _ hT0
    have u0 := b1 Fn
    have uf := Fn.fz
    go_simp
    go_wp2_with fail
    have FS2 : (v0.setCell ⟨nb, 0, none⟩ (.int .i64 gk)).cell? ⟨Bx, 0, none⟩ = some (.int .i64 am) := (World.cell?_of_block (a := ⟨Bx, 0, none⟩) (Below.heap_setCell _ _ _ Bx (by show Bx ≠ nb; omega))).trans FS
    refine hK.out _ _ FS2 (fun hHeld => ?_)
    clear hK K FS u0 uf
    try simp only [Act.put, sA, sB, sC]
    have Gn : BlkF (v0.setCell ⟨nb, 0, none⟩ (.int .i64 gk)) w.heap.size nb [.int .i64 gk] := BlkF.st (vs' := [.int .i64 gk]) Fn rfl
    have Gm : BlkF (v0.setCell ⟨nb, 0, none⟩ (.int .i64 gk)) w.heap.size mb [.int .i64 0] := Fm.other (c := nb) (i := 0) (l := [.int .i64 gk]) (by omega)
    have Ge : BlkF (v0.setCell ⟨nb, 0, none⟩ (.int .i64 gk)) w.heap.size eb [.int .i64 0] := Fe.other (c := nb) (i := 0) (l := [.int .i64 gk]) (by omega)
    have GB : Below w.heap.size w (v0.setCell ⟨nb, 0, none⟩ (.int .i64 gk)) := FB.setCell (p := ⟨nb, 0, none⟩) (show w.heap.size ≤ nb by omega) (.int .i64 gk)
    have GK : KeepsFrom N X (v0.setCell ⟨nb, 0, none⟩ (.int .i64 gk)) := FK.trans ((KeepsOthers.setCell _ _ _).from _)
    clear Fn Fm Fe FB FK
    generalize hq0 : (v0.setCell ⟨nb, 0, none⟩ (.int .i64 gk)) = v1 at Gn Gm Ge GB GK FS2 hHeld ⊢
    clear hq0
    have Fn := Gn
    have Fm := Gm
    have Fe := Ge
    have FB := GB
    have FK := GK
    have FS := FS2
    clear Gn Gm Ge GB GK FS2
    refine wpAnyH_ready (rs := [4]) (by kernel_rfl) (by simp) ?_
    refine AllReadyH.cons rfl (fun K hK => ?_) (AllReadyH.nil)
    have u0 := b1 Fm
    have uf := Fm.fz
    go_simp
    go_wp2_with fail
    have FS2 : (v1.setCell ⟨mb, 0, none⟩ (.int .i64 am)).cell? ⟨Bx, 0, none⟩ = some (.int .i64 am) := (World.cell?_of_block (a := ⟨Bx, 0, none⟩) (Below.heap_setCell _ _ _ Bx (by show Bx ≠ mb; omega))).trans FS
    refine hK.out _ _ FS2 (fun hHeld => ?_)
    clear hK K FS u0 uf
    try simp only [Act.put, sA, sB, sC]
    have Gn : BlkF (v1.setCell ⟨mb, 0, none⟩ (.int .i64 am)) w.heap.size nb [.int .i64 gk] := Fn.other (c := mb) (i := 0) (l := [.int .i64 am]) (by omega)
    have Gm : BlkF (v1.setCell ⟨mb, 0, none⟩ (.int .i64 am)) w.heap.size mb [.int .i64 am] := BlkF.st (vs' := [.int .i64 am]) Fm rfl
    have Ge : BlkF (v1.setCell ⟨mb, 0, none⟩ (.int .i64 am)) w.heap.size eb [.int .i64 0] := Fe.other (c := mb) (i := 0) (l := [.int .i64 am]) (by omega)
    have GB : Below w.heap.size w (v1.setCell ⟨mb, 0, none⟩ (.int .i64 am)) := FB.setCell (p := ⟨mb, 0, none⟩) (show w.heap.size ≤ mb by omega) (.int .i64 am)
    have GK : KeepsFrom N X (v1.setCell ⟨mb, 0, none⟩ (.int .i64 am)) := FK.trans ((KeepsOthers.setCell _ _ _).from _)
    clear Fn Fm Fe FB FK
    generalize hq1 : (v1.setCell ⟨mb, 0, none⟩ (.int .i64 am)) = v2 at Gn Gm Ge GB GK FS2 hHeld ⊢
    clear hq1
    have Fn := Gn
    have Fm := Gm
    have Fe := Ge
    have FB := GB
    have FK := GK
    have FS := FS2
    clear Gn Gm Ge GB GK FS2
    refine wpAnyH_ready (rs := [5]) (by kernel_rfl) (by simp) ?_
    refine AllReadyH.cons rfl (fun K hK => ?_) (AllReadyH.nil)
    have u0 := b1 Fe
    have uf := Fe.fz
    go_simp
    go_wp2_with fail
    have FS2 : (v2.setCell ⟨eb, 0, none⟩ (.int .i64 0)).cell? ⟨Bx, 0, none⟩ = some (.int .i64 am) := (World.cell?_of_block (a := ⟨Bx, 0, none⟩) (Below.heap_setCell _ _ _ Bx (by show Bx ≠ eb; omega))).trans FS
    refine hK.out _ _ FS2 (fun hHeld => ?_)
    clear hK K FS u0 uf
    try simp only [Act.put, sA, sB, sC]
    have Gn : BlkF (v2.setCell ⟨eb, 0, none⟩ (.int .i64 0)) w.heap.size nb [.int .i64 gk] := Fn.other (c := eb) (i := 0) (l := [.int .i64 0]) (by omega)
    have Gm : BlkF (v2.setCell ⟨eb, 0, none⟩ (.int .i64 0)) w.heap.size mb [.int .i64 am] := Fm.other (c := eb) (i := 0) (l := [.int .i64 0]) (by omega)
    have Ge : BlkF (v2.setCell ⟨eb, 0, none⟩ (.int .i64 0)) w.heap.size eb [.int .i64 0] := BlkF.st (vs' := [.int .i64 0]) Fe rfl
    have GB : Below w.heap.size w (v2.setCell ⟨eb, 0, none⟩ (.int .i64 0)) := FB.setCell (p := ⟨eb, 0, none⟩) (show w.heap.size ≤ eb by omega) (.int .i64 0)
    have GK : KeepsFrom N X (v2.setCell ⟨eb, 0, none⟩ (.int .i64 0)) := FK.trans ((KeepsOthers.setCell _ _ _).from _)
    clear Fn Fm Fe FB FK
    generalize hq2 : (v2.setCell ⟨eb, 0, none⟩ (.int .i64 0)) = v3 at Gn Gm Ge GB GK FS2 hHeld ⊢
    clear hq2
    have Fn := Gn
    have Fm := Gm
    have Fe := Ge
    have FB := GB
    have FK := GK
    have FS := FS2
    clear Gn Gm Ge GB GK FS2
    refine wpAnyH_done (by kernel_rfl) ?_ _
    clear hHeld HS FS
    have HF := Lib.hid (And.intro Fn (And.intro Fm (And.intro Fe (And.intro FB FK))))
    clear Fn Fm Fe FB FK
    gi_wp2
    exact ⟨by rw [hN]; exact HF.out.2.2.2.2, ⟨rfl, HF.out.1, HF.out.2.1, HF.out.2.2.1⟩, HF.out.2.2.2.1⟩
  case done =>
    rintro Dq X hDq ⟨h0, _⟩ hK
    exact absurd h0 (by decide)
  case stop =>
    rintro Dq c k X hDq hk ⟨⟨rfl, Zn, Zm, Ze⟩, hBX⟩ hK
    have n0 := b1 Zn
    have m0 := b1 Zm
    have e0 := b1 Ze
    gi_wp2
    refine ⟨by simp, .inl ⟨_, _, rfl, run_takeDeferred hK, ?_⟩⟩
    have n1 : (X.putObj Dq (.deferred none)).cell? ⟨nb, 0, none⟩ = some (.int .i64 gk) := (World.cell?_of_block (a := ⟨nb, 0, none⟩) (World.putObj_heap_other (show nb ≠ Dq by omega))).trans n0
    have m1 : (X.putObj Dq (.deferred none)).cell? ⟨mb, 0, none⟩ = some (.int .i64 am) := (World.cell?_of_block (a := ⟨mb, 0, none⟩) (World.putObj_heap_other (show mb ≠ Dq by omega))).trans m0
    have e1 : (X.putObj Dq (.deferred none)).cell? ⟨eb, 0, none⟩ = some (.int .i64 0) := (World.cell?_of_block (a := ⟨eb, 0, none⟩) (World.putObj_heap_other (show eb ≠ Dq by omega))).trans e0
    have hBY : Below w.heap.size w (X.putObj Dq (.deferred none)) := hBX.trans (belowK_b (w := w) (Nat.le_refl _) X Dq _ _ (by have := hBW.size; omega) hK rfl rfl)
    generalize X.putObj Dq (.deferred none) = Y at n1 m1 e1 hBY ⊢
    clear hK hBX n0 m0 e0
    refine ⟨.tuple #[.int .i64 gk, .int .i64 am, .int .i64 0], by simp [results, Tryz.results25, go_sem, *], rfl, hBY⟩
end Go.Proofs.YtijdphlejokijaaGreat
