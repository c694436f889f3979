import Derived.Test.YtijdphlejokijaaENDENp
import Derived.Test.YtijdphlejokijaaENDENeedA
import Derived.Test.YtijdphlejokijaaENDECta
import Derived.Outline
namespace Go.Proofs.Ytijdphlejokijaa
open Go.Shelf Go.ChangeShapes Go.WideShapes Go.ChangeAt Go.RowKit
set_option linter.unusedVariables false
set_option linter.unusedSimpArgs false
attribute [local go_sem ↓] Go.wp_at_zero Go.wp_at_succ
attribute [local go_sem] Oper.semAt_some
theorem gaV_len : ∀ g, (gaV g).length = 2 := fun _ => rfl
theorem leV_len : ∀ g, (leV g).length = 3 := fun _ => rfl
theorem ptV_len : ∀ g, (ptV g).length = 2 := fun _ => rfl
theorem bsO_cells {α : Type} {f : α → List Value} {n : Nat} {X : World} {A : Option Addr} {L : List α} (hf : ∀ g, (f g).length = n + 1) (h : SlRows f (n + 1) X A L) : ∀ b ∈ bsO A L, ∃ o, X.heap[b]? = some o ∧ o.isCells = true := by
  intro b hb
  rcases h with rfl | ⟨c, off, rfl, hl, hR⟩
  · cases A <;> simp [bsO] at hb
  · cases L with
    | nil => simp [bsO] at hb
    | cons x l =>
      simp [bsO] at hb
      subst hb
      have h0 := hR 0 (by simp) 0 (by omega)
      have hx : 0 < (f ((x :: l)[0])).length := by rw [hf]; omega
      obtain ⟨v, hv⟩ : ∃ v, (f ((x :: l)[0]))[0]? = some v := ⟨_, List.getElem?_eq_getElem hx⟩
      rw [hv] at h0
      exact cells_of h0
theorem needs_posF (n : Nat) (hn : 5 ≤ n) (bs : List Nat) (fb sb rb : Nat) (nm : ByteArray) (s : Int) (G : List Ga) (D : List Le) (A B P : Option Addr) (gn gc dn dc pc : Nat) (E9 : Int) (T : List Ox) (r : Ru) (AT : Option Addr) (tn tc : Nat) (t : Int) (xs : List Nat) (w : World) (gF : Nat → Nat) (vF sF : Nat → Int) (hF : Hid (∀ i : Nat, gF i = ndG s G D (t + (i : Int)) ∧ vF i = ndV r s G D (t + (i : Int)) ∧ sF i = t + (i : Int))) (hgn : Hid (gn = G.length)) (hdn : Hid (dn = D.length)) (hok : Hid (PlnOk nm s G D)) (hru : Hid (RuOk T r)) (hshort : Hid (∀ k, (legC s G D k).s ≤ 20000))
    (hM : FolM bs fb nm s G D A B P gn gc dn dc pc E9 w) (hbsw : ∀ b ∈ bs, b < w.heap.size) (hbsc : ∀ b ∈ bs, b ∉ xs ∧ ∃ o, w.heap[b]? = some o ∧ o.isCells = true) (hxs : ∀ b ∈ xs, b < w.heap.size) (hrx : rb ∉ xs) (hSb : BlkF w 0 sb [.int .i64 t]) (hRb : BlkF w 0 rb [.slice AT tn tc, .int .i64 r.a, .int .i64 r.b, .int .i64 r.nc, .int .i64 r.dn, .int .i64 r.br, .int .i64 r.em, .int .i64 r.pa, .int .i64 r.sc]) (t0 : 0 ≤ t) (t1 : Hid (t ≤ secT D D.length)) (hS9 : Hid (secT D D.length ≤ 20000)) :
    SeqP (n - 1 - 1 - 1) n Try.prog 116 #[.pointer (some ⟨sb, 0, none⟩), .pointer (some ⟨fb, 0, none⟩), .pointer (some ⟨rb, 0, none⟩)] (fun i => #[.int .i64 (gF i : Int), .agg #[.int .i64 (vF i), .int .i64 (sF i)]]) (KeepX xs) (ndN D t) w := by
  have e : (fun i : Nat => #[Value.int .i64 (gF i : Int), .agg #[.int .i64 (vF i), .int .i64 (sF i)]]) = (fun i : Nat => #[.int .i64 (ndG s G D (t + (i : Int)) : Int), .agg #[.int .i64 (ndV r s G D (t + (i : Int))), .int .i64 (t + (i : Int))]]) := funext fun i => by
    obtain ⟨h1, h2, h3⟩ := hF.out i
    rw [h1, h2, h3]
  rw [e]
  exact needs_pos n hn bs fb sb rb nm s G D A B P gn gc dn dc pc E9 T r AT tn tc t xs w hgn hdn hok hru hshort hM hbsw hbsc hxs hrx hSb hRb t0 t1 hS9
set_option maxRecDepth 100000 in
set_option maxHeartbeats 8000000 in
theorem NeedAt_any (nm : ByteArray) (s : Int) (G : List Ga) (D : List Le) (A B : Option Addr) (gn gc dn dc N0 : Nat) (T : List Ox) (r : Ru) (AT : Option Addr) (tn tc : Nat) (t E0 E1 F2 F3 E gk am z : Int) (w : World) (hz : nm.size ≤ 9223372036854775807) (hgn : Hid (gn = G.length)) (hgl : gn ≤ 9223372036854775807) (hdn : Hid (dn = D.length)) (hdl : dn ≤ 9223372036854775807) (hG : Hid (SlRows gaV 2 w A G)) (hD : Hid (SlRows leV 3 w B D)) (hE0 : Hid (plnP nm s G D = (N0, E0)))
    (htn : Hid (tn = T.length)) (htl : tn ≤ 9223372036854775807) (hT : Hid (SlRows oxV 2 w AT T)) (hE1 : Hid (ruE T r = E1)) (hF2 : Hid ((if 20000 < secT D dn then 8 else 0) = F2)) (hF3 : Hid (rngE t 0 (secT D dn) = F3)) (hE : Hid (firE [E0, E1, F2, F3] = E))
    (hgk : Hid ((if dn = 0 then (0 : Int) else (ndG s G D t : Int)) = gk)) (ham : Hid ((if dn = 0 then (0 : Int) else ndV r s G D t) = am)) (hz9 : Hid ((if dn = 0 then (12 : Int) else 0) = z)) :
    Calls Try.prog 55 #[.agg #[.string nm, .int .i64 s, .slice A gn gc, .slice B dn dc], .agg #[.slice AT tn tc, .int .i64 r.a, .int .i64 r.b, .int .i64 r.nc, .int .i64 r.dn, .int .i64 r.br, .int .i64 r.em, .int .i64 r.pa, .int .i64 r.sc], .int .i64 t] w fun e w' => (¬ E = 0 ∧ e = .returned (.tuple #[.int .i64 0, .int .i64 0, .int .i64 E]) ∧ Below w.heap.size w w') ∨ (E = 0 ∧ e = .returned (.tuple #[.int .i64 gk, .int .i64 am, .int .i64 z]) ∧ Below w.heap.size w w') := by
  refine (callsIn_wide (n := 12)).1 ?_
  refine callsIn_of_wp_marks Try.func55 rfl trivial ?_ rfl
  simp only [Try.ntmps55, List.size_toArray, List.length_cons, List.length_nil, Nat.reduceAdd, Nat.reduceSub, Array.replicate_succ, Array.replicate_zero, List.push_toArray, List.append_toArray, List.nil_append, List.cons_append]
  gi_wp2_with fail
  have hb0 : Below w.heap.size w (((((w.alloc (.cells #[.string nm, .int .i64 s, .slice A gn gc, .slice B dn dc] 40)).alloc (.cells #[.slice AT tn tc, .int .i64 r.a, .int .i64 r.b, .int .i64 r.nc, .int .i64 r.dn, .int .i64 r.br, .int .i64 r.em, .int .i64 r.pa, .int .i64 r.sc] 26)).alloc (.cells #[.int .i64 0] 3)).alloc (.cells #[.int .i64 0] 3)).alloc (.cells #[.int .i64 0] 29)) := (((((Below.refl _ _).alloc (Nat.le_refl _) _).alloc (by simp) _).alloc (by simp <;> omega) _).alloc (by simp <;> omega) _).alloc (by simp <;> omega) _
  have q12 : Below ((w.alloc (.cells #[.string nm, .int .i64 s, .slice A gn gc, .slice B dn dc] 40)).alloc (.cells #[.slice AT tn tc, .int .i64 r.a, .int .i64 r.b, .int .i64 r.nc, .int .i64 r.dn, .int .i64 r.br, .int .i64 r.em, .int .i64 r.pa, .int .i64 r.sc] 26)).heap.size ((w.alloc (.cells #[.string nm, .int .i64 s, .slice A gn gc, .slice B dn dc] 40)).alloc (.cells #[.slice AT tn tc, .int .i64 r.a, .int .i64 r.b, .int .i64 r.nc, .int .i64 r.dn, .int .i64 r.br, .int .i64 r.em, .int .i64 r.pa, .int .i64 r.sc] 26)) (((((w.alloc (.cells #[.string nm, .int .i64 s, .slice A gn gc, .slice B dn dc] 40)).alloc (.cells #[.slice AT tn tc, .int .i64 r.a, .int .i64 r.b, .int .i64 r.nc, .int .i64 r.dn, .int .i64 r.br, .int .i64 r.em, .int .i64 r.pa, .int .i64 r.sc] 26)).alloc (.cells #[.int .i64 0] 3)).alloc (.cells #[.int .i64 0] 3)).alloc (.cells #[.int .i64 0] 29)) := (((Below.refl _ _).alloc (Nat.le_refl _) _).alloc (by simp) _).alloc (by simp <;> omega) _
  have q23 : Below (((w.alloc (.cells #[.string nm, .int .i64 s, .slice A gn gc, .slice B dn dc] 40)).alloc (.cells #[.slice AT tn tc, .int .i64 r.a, .int .i64 r.b, .int .i64 r.nc, .int .i64 r.dn, .int .i64 r.br, .int .i64 r.em, .int .i64 r.pa, .int .i64 r.sc] 26)).alloc (.cells #[.int .i64 0] 3)).heap.size (((w.alloc (.cells #[.string nm, .int .i64 s, .slice A gn gc, .slice B dn dc] 40)).alloc (.cells #[.slice AT tn tc, .int .i64 r.a, .int .i64 r.b, .int .i64 r.nc, .int .i64 r.dn, .int .i64 r.br, .int .i64 r.em, .int .i64 r.pa, .int .i64 r.sc] 26)).alloc (.cells #[.int .i64 0] 3)) (((((w.alloc (.cells #[.string nm, .int .i64 s, .slice A gn gc, .slice B dn dc] 40)).alloc (.cells #[.slice AT tn tc, .int .i64 r.a, .int .i64 r.b, .int .i64 r.nc, .int .i64 r.dn, .int .i64 r.br, .int .i64 r.em, .int .i64 r.pa, .int .i64 r.sc] 26)).alloc (.cells #[.int .i64 0] 3)).alloc (.cells #[.int .i64 0] 3)).alloc (.cells #[.int .i64 0] 29)) := ((Below.refl _ _).alloc (Nat.le_refl _) _).alloc (by simp) _
  have q34 : Below ((((w.alloc (.cells #[.string nm, .int .i64 s, .slice A gn gc, .slice B dn dc] 40)).alloc (.cells #[.slice AT tn tc, .int .i64 r.a, .int .i64 r.b, .int .i64 r.nc, .int .i64 r.dn, .int .i64 r.br, .int .i64 r.em, .int .i64 r.pa, .int .i64 r.sc] 26)).alloc (.cells #[.int .i64 0] 3)).alloc (.cells #[.int .i64 0] 3)).heap.size ((((w.alloc (.cells #[.string nm, .int .i64 s, .slice A gn gc, .slice B dn dc] 40)).alloc (.cells #[.slice AT tn tc, .int .i64 r.a, .int .i64 r.b, .int .i64 r.nc, .int .i64 r.dn, .int .i64 r.br, .int .i64 r.em, .int .i64 r.pa, .int .i64 r.sc] 26)).alloc (.cells #[.int .i64 0] 3)).alloc (.cells #[.int .i64 0] 3)) (((((w.alloc (.cells #[.string nm, .int .i64 s, .slice A gn gc, .slice B dn dc] 40)).alloc (.cells #[.slice AT tn tc, .int .i64 r.a, .int .i64 r.b, .int .i64 r.nc, .int .i64 r.dn, .int .i64 r.br, .int .i64 r.em, .int .i64 r.pa, .int .i64 r.sc] 26)).alloc (.cells #[.int .i64 0] 3)).alloc (.cells #[.int .i64 0] 3)).alloc (.cells #[.int .i64 0] 29)) := (Below.refl _ _).alloc (Nat.le_refl _) _
  have Zr := (BlkF.made (B := w.heap.size) (w.alloc (.cells #[.string nm, .int .i64 s, .slice A gn gc, .slice B dn dc] 40)) [.slice AT tn tc, .int .i64 r.a, .int .i64 r.b, .int .i64 r.nc, .int .i64 r.dn, .int .i64 r.br, .int .i64 r.em, .int .i64 r.pa, .int .i64 r.sc] 26 (by simp)).below q12
  have Zn := (BlkF.made (B := w.heap.size) ((w.alloc (.cells #[.string nm, .int .i64 s, .slice A gn gc, .slice B dn dc] 40)).alloc (.cells #[.slice AT tn tc, .int .i64 r.a, .int .i64 r.b, .int .i64 r.nc, .int .i64 r.dn, .int .i64 r.br, .int .i64 r.em, .int .i64 r.pa, .int .i64 r.sc] 26)) [.int .i64 0] 3 (by simp <;> omega)).below q23
  have Zm := (BlkF.made (B := w.heap.size) (((w.alloc (.cells #[.string nm, .int .i64 s, .slice A gn gc, .slice B dn dc] 40)).alloc (.cells #[.slice AT tn tc, .int .i64 r.a, .int .i64 r.b, .int .i64 r.nc, .int .i64 r.dn, .int .i64 r.br, .int .i64 r.em, .int .i64 r.pa, .int .i64 r.sc] 26)).alloc (.cells #[.int .i64 0] 3)) [.int .i64 0] 3 (by simp <;> omega)).below q34
  have Ze := BlkF.made (B := w.heap.size) ((((w.alloc (.cells #[.string nm, .int .i64 s, .slice A gn gc, .slice B dn dc] 40)).alloc (.cells #[.slice AT tn tc, .int .i64 r.a, .int .i64 r.b, .int .i64 r.nc, .int .i64 r.dn, .int .i64 r.br, .int .i64 r.em, .int .i64 r.pa, .int .i64 r.sc] 26)).alloc (.cells #[.int .i64 0] 3)).alloc (.cells #[.int .i64 0] 3)) [.int .i64 0] 29 (by simp <;> omega)
  simp only [World.size_alloc] at Zr Zn Zm Ze
  clear q12 q23 q34
  refine ⟨trivial, callsIn_world (fun X => Below w.heap.size w X ∧ BlkF X w.heap.size (w.heap.size + 1) [.slice AT tn tc, .int .i64 r.a, .int .i64 r.b, .int .i64 r.nc, .int .i64 r.dn, .int .i64 r.br, .int .i64 r.em, .int .i64 r.pa, .int .i64 r.sc] ∧ BlkF X w.heap.size (w.heap.size + 1 + 1) [.int .i64 0] ∧ BlkF X w.heap.size (w.heap.size + 1 + 1 + 1) [.int .i64 0] ∧ BlkF X w.heap.size (w.heap.size + 1 + 1 + 1 + 1) [.int .i64 0]) ⟨hb0, Zr, Zn, Zm, Ze⟩ (fun x0 hx0 => ?_)⟩
  clear Zr Zn Zm Ze hb0
  obtain ⟨hb0, Zr, Zn, Zm, Ze⟩ := hx0
  refine (callsIn_wide.2 (follow_x nm s G D A B gn gc dn dc N0 E0 x0 hz hgn hgl hdn hdl (Lib.hid (hG.out.below hb0)) (Lib.hid (hD.out.below hb0)) hE0)).mono ?_
  rintro e x1 ⟨a0, a1, a2, n2, c2, a3, n3, c3, a4, n4, c4, a5, rfl, hn3, hn2, hfg, hb1⟩
  have HFG := Lib.hid hfg
  have hB1 := hb0.trans (hb1.mono hb0.size)
  replace Zr := Zr.below hb1
  replace Zn := Zn.below hb1
  replace Zm := Zm.below hb1
  replace Ze := Ze.below hb1
  obtain ⟨rb, hrb⟩ : ∃ z, w.heap.size + 1 = z := ⟨_, rfl⟩
  obtain ⟨nb, hnb⟩ : ∃ z, rb + 1 = z := ⟨_, rfl⟩
  obtain ⟨mb, hmb⟩ : ∃ z, nb + 1 = z := ⟨_, rfl⟩
  obtain ⟨eb, heb⟩ : ∃ z, mb + 1 = z := ⟨_, rfl⟩
  rw [hrb] at Zr Zn Zm Ze ⊢
  rw [hnb] at Zn Zm Ze ⊢
  rw [hmb] at Zm Ze ⊢
  rw [heb] at Ze ⊢
  clear hb1 hb0
  obtain ⟨E2, hE2x⟩ : ∃ z : Int, Hid ((if 20000 < a5 then (8 : Int) else 0) = z) := ⟨_, Lib.hid rfl⟩
  obtain ⟨E3, hE3x⟩ : ∃ z, Hid (rngE t 0 a5 = z) := ⟨_, Lib.hid rfl⟩
  have hEX : Hid (firE [E0, E1, E2, E3] = E) := Lib.hid (by
    rw [← hE.out]
    refine fir_x fun h => ?_
    have h5 := (HFG.out h).1.2.2.2.2.2.2.2.2.2
    rw [← hE2x.out, ← hE3x.out, ← hF2.out, ← hF3.out, h5])
  have hE2 : Hid (E0 = 0 → (if 20000 < secT D dn then (8 : Int) else 0) = E2) := Lib.hid (fun h => by rw [← hE2x.out, (HFG.out h).1.2.2.2.2.2.2.2.2.2])
  have hE3 : Hid (E0 = 0 → rngE t 0 (secT D dn) = E3) := Lib.hid (fun h => by rw [← hE3x.out, (HFG.out h).1.2.2.2.2.2.2.2.2.2])
  gi_upto_region 2 with (fail)
  refine ex_world (fun X => Below x1.heap.size x1 X ∧ BlkF X x1.heap.size x1.heap.size [.string a0, .int .i64 a1, .slice a2 n2 c2, .slice a3 n3 c3, .slice a4 n4 c4, .int .i64 a5]) ⟨(Below.refl _ _).alloc (Nat.le_refl _) _, BlkF.made (B := x1.heap.size) x1 [.string a0, .int .i64 a1, .slice a2 n2 c2, .slice a3 n3 c3, .slice a4 n4 c4, .int .i64 a5] 110 (Nat.le_refl _)⟩ (fun u hu => ?_)
  obtain ⟨hbu, Zf⟩ := hu
  have hBu := hB1.trans (hbu.mono hB1.size)
  replace Zr := Zr.below hbu
  replace Zn := Zn.below hbu
  replace Zm := Zm.below hbu
  replace Ze := Ze.below hbu
  replace HFG := Lib.hid (HFG.out.below hbu)
  have hbu0 := Below.refl u.heap.size u
  obtain ⟨xf, hxf⟩ : ∃ z, x1.heap.size = z := ⟨_, rfl⟩
  rw [hxf] at Zf ⊢
  have lf := Zf.lt
  have lr := Zr.lt
  obtain ⟨f0, f1, f2, f3, f4, f5⟩ := b6 Zf
  obtain ⟨r0, r1, r2, r3, r4, r5, r6, r7, r8⟩ := b9 Zr
  have HTU : Hid (∀ y, Below u.heap.size u y → SlRows oxV 2 y AT T) := Lib.hid fun y hy => hT.out.below (hBu.trans (hy.mono hBu.size))
  have HS : Hid (∀ y, Below u.heap.size u y → y.cell? ⟨xf, 0, none⟩ = some (.string a0) ∧ y.cell? ⟨xf, 1, none⟩ = some (.int .i64 a1) ∧ y.cell? ⟨xf, 2, none⟩ = some (.slice a2 n2 c2) ∧ y.cell? ⟨xf, 3, none⟩ = some (.slice a3 n3 c3) ∧ y.cell? ⟨xf, 4, none⟩ = some (.slice a4 n4 c4) ∧ y.cell? ⟨xf, 5, none⟩ = some (.int .i64 a5) ∧ y.cell? ⟨rb, 0, none⟩ = some (.slice AT tn tc) ∧ y.cell? ⟨rb, 1, none⟩ = some (.int .i64 r.a) ∧ y.cell? ⟨rb, 2, none⟩ = some (.int .i64 r.b) ∧ y.cell? ⟨rb, 3, none⟩ = some (.int .i64 r.nc) ∧ y.cell? ⟨rb, 4, none⟩ = some (.int .i64 r.dn) ∧ y.cell? ⟨rb, 5, none⟩ = some (.int .i64 r.br) ∧ y.cell? ⟨rb, 6, none⟩ = some (.int .i64 r.em) ∧ y.cell? ⟨rb, 7, none⟩ = some (.int .i64 r.pa) ∧ y.cell? ⟨rb, 8, none⟩ = some (.int .i64 r.sc)) := Lib.hid fun y hy => ⟨(hy.cell (p := ⟨xf, 0, none⟩) lf).trans f0, (hy.cell (p := ⟨xf, 1, none⟩) lf).trans f1, (hy.cell (p := ⟨xf, 2, none⟩) lf).trans f2, (hy.cell (p := ⟨xf, 3, none⟩) lf).trans f3, (hy.cell (p := ⟨xf, 4, none⟩) lf).trans f4, (hy.cell (p := ⟨xf, 5, none⟩) lf).trans f5, (hy.cell (p := ⟨rb, 0, none⟩) lr).trans r0, (hy.cell (p := ⟨rb, 1, none⟩) lr).trans r1, (hy.cell (p := ⟨rb, 2, none⟩) lr).trans r2, (hy.cell (p := ⟨rb, 3, none⟩) lr).trans r3, (hy.cell (p := ⟨rb, 4, none⟩) lr).trans r4, (hy.cell (p := ⟨rb, 5, none⟩) lr).trans r5, (hy.cell (p := ⟨rb, 6, none⟩) lr).trans r6, (hy.cell (p := ⟨rb, 7, none⟩) lr).trans r7, (hy.cell (p := ⟨rb, 8, none⟩) lr).trans r8⟩
  clear f0 f1 f2 f3 f4 f5 r0 r1 r2 r3 r4 r5 r6 r7 r8 lf lr hB1 hbu hxf
  refine wpIn_np ?_
  refine wpIn_wide.2 ?_
  refine wp_region_held_drew (S := (fun w' => w'.cell? ⟨xf, 0, none⟩ = some (.string a0) ∧ w'.cell? ⟨xf, 1, none⟩ = some (.int .i64 a1) ∧ w'.cell? ⟨xf, 2, none⟩ = some (.slice a2 n2 c2) ∧ w'.cell? ⟨xf, 3, none⟩ = some (.slice a3 n3 c3) ∧ w'.cell? ⟨xf, 4, none⟩ = some (.slice a4 n4 c4) ∧ w'.cell? ⟨xf, 5, none⟩ = some (.int .i64 a5) ∧ w'.cell? ⟨rb, 0, none⟩ = some (.slice AT tn tc) ∧ w'.cell? ⟨rb, 1, none⟩ = some (.int .i64 r.a) ∧ w'.cell? ⟨rb, 2, none⟩ = some (.int .i64 r.b) ∧ w'.cell? ⟨rb, 3, none⟩ = some (.int .i64 r.nc) ∧ w'.cell? ⟨rb, 4, none⟩ = some (.int .i64 r.dn) ∧ w'.cell? ⟨rb, 5, none⟩ = some (.int .i64 r.br) ∧ w'.cell? ⟨rb, 6, none⟩ = some (.int .i64 r.em) ∧ w'.cell? ⟨rb, 7, none⟩ = some (.int .i64 r.pa) ∧ w'.cell? ⟨rb, 8, none⟩ = some (.int .i64 r.sc))) (by kernel_rfl) (HS.out _ (Below.refl _ _).drew) (fun hHeld => ?_)
  have hT0 : Below u.heap.size u u.drew := (Below.refl _ _).drew
  generalize hdr : u.drew = v0 at *
  clear hdr
  refine tkH 0 ⟨some 18, _, _, _, _, _⟩ ?_ rfl ?_ (by assumption) ?_
  rotate_left
  · (intro w hSw; (try dsimp only at hSw); go_simp; all_goals with_reducible rfl)
  try simp only [Act.put, sA, sB, sC]
  refine tkH 1 ⟨some 19, _, _, _, _, _⟩ ?_ rfl ?_ (by assumption) ?_
  rotate_left
  · (intro w hSw; (try dsimp only at hSw); go_simp; all_goals with_reducible rfl)
  try simp only [Act.put, sA, sB, sC]
  refine tkH 3 ⟨some 21, _, _, _, _, _⟩ ?_ rfl ?_ (by assumption) ?_
  rotate_left
  · (intro w hSw; (try dsimp only at hSw); go_simp; all_goals with_reducible rfl)
  try simp only [Act.put, sA, sB, sC]
  refine tkH 5 ⟨some 23, _, _, _, _, _⟩ ?_ rfl ?_ (by assumption) ?_
  rotate_left
  · (intro w hSw; (try dsimp only at hSw); go_simp; all_goals with_reducible rfl)
  try simp only [Act.put, sA, sB, sC]
  refine tkH 6 ⟨some 24, _, _, _, _, _⟩ ?_ rfl ?_ (by assumption) ?_
  rotate_left
  · (intro w hSw; (try dsimp only at hSw); go_simp; all_goals with_reducible rfl)
  try simp only [Act.put, sA, sB, sC]
  refine wpAnyH_ready (rs := [2]) (by kernel_rfl) (by simp) ?_
  refine AllReadyH.cons rfl (fun K hK => ?_) (AllReadyH.nil)
  go_simp
  refine (CheckRules_any T r AT tn tc E1 _ htn htl (HTU.out _ hT0) hE1).mono ?_
  rintro e v1 ⟨rfl, hbv0⟩
  have hT1 : Below u.heap.size u v1 := hT0.trans (hbv0.mono hT0.size)
  clear hbv0
  go_wp2_with fail
  refine hK.out _ _ (HS.out _ hT1) (fun hHeld => ?_)
  clear hK K
  try simp only [Act.put, sA, sB, sC]
  refine wpAnyH_ready (rs := [4]) (by kernel_rfl) (by simp) ?_
  refine AllReadyH.cons rfl (fun K hK => ?_) (AllReadyH.nil)
  go_simp
  refine (checkTrace_x a0 a1 a2 n2 c2 a3 n3 c3 a4 n4 c4 a5 E2 _ hE2x).mono ?_
  rintro e v2 ⟨rfl, hbv1⟩
  have hT2 : Below u.heap.size u v2 := hT1.trans (hbv1.mono hT1.size)
  clear hbv1
  go_wp2_with fail
  refine hK.out _ _ (HS.out _ hT2) (fun hHeld => ?_)
  clear hK K
  try simp only [Act.put, sA, sB, sC]
  refine wpAnyH_ready (rs := [7]) (by kernel_rfl) (by simp) ?_
  refine AllReadyH.cons rfl (fun K hK => ?_) (AllReadyH.nil)
  go_simp
  refine (checkSecond_x a0 a1 a2 n2 c2 a3 n3 c3 a4 n4 c4 a5 t E3 _ hE3x).mono ?_
  rintro e v3 ⟨rfl, hbv2⟩
  have hT3 : Below u.heap.size u v3 := hT2.trans (hbv2.mono hT2.size)
  clear hbv2
  go_wp2_with fail
  refine hK.out _ _ (HS.out _ hT3) (fun hHeld => ?_)
  clear hK K
  try simp only [Act.put, sA, sB, sC]
  refine wpAnyH_ready (rs := [8]) (by kernel_rfl) (by simp) ?_
  refine AllReadyH.cons rfl (fun K hK => ?_) (AllReadyH.nil)
  go_simp
  go_wp2_with fail
  refine hK.out _ _ (HS.out _ (hT3.alloc hT3.size _)) (fun hHeld => ?_)
  clear hK K
  try simp only [Act.put, sA, sB, sC]
  have HNbz := Lib.hid (BlkF.made (B := u.heap.size) v3 [.int .i64 E0, .int .i64 E1, .int .i64 E2, .int .i64 E3] 29 hT3.size)
  have hbv3 : Below v3.heap.size v3 (v3.alloc (.cells #[.int .i64 E0, .int .i64 E1, .int .i64 E2, .int .i64 E3] 29)) := (Below.refl _ _).alloc (Nat.le_refl _) _
  have hnbz : u.heap.size ≤ v3.heap.size := hT3.size
  have exbz : ∃ x, v3.heap.size = x := ⟨_, rfl⟩
  generalize hq3 : v3.alloc (.cells #[.int .i64 E0, .int .i64 E1, .int .i64 E2, .int .i64 E3] 29) = v4 at *
  have hT4 : Below u.heap.size u v4 := hT3.trans (hbv3.mono hT3.size)
  obtain ⟨bz, ebz⟩ := exbz
  rw [ebz] at HNbz hnbz ⊢
  clear hbv3 hq3
  refine wpAnyH_ready (rs := [9]) (by kernel_rfl) (by simp) ?_
  refine AllReadyH.cons rfl (fun K hK => ?_) (AllReadyH.nil)
  go_simp
  refine (cFirst4X E0 E1 E2 E3 E bz _ hEX HNbz.out).mono ?_
  rintro e v5 ⟨rfl, hbv4⟩
  have hT5 : Below u.heap.size u v5 := hT4.trans (hbv4.mono hT4.size)
  replace HNbz := Lib.hid (HNbz.out.below hbv4)
  clear hbv4
  go_wp2_with fail
  refine hK.out _ _ (HS.out _ hT5) (fun hHeld => ?_)
  clear hK K
  try simp only [Act.put, sA, sB, sC]
  refine tkH 10 ⟨some 10, _, _, _, _, _⟩ ?_ rfl ?_ (by assumption) ?_
  rotate_left
  · (intro w hSw; (try dsimp only at hSw); go_simp; all_goals with_reducible rfl)
  try simp only [Act.put, sA, sB, sC]
  refine wpAnyH_done (by kernel_rfl) ?_ _
  obtain ⟨x3, rfl⟩ : ∃ z, z = v5 := ⟨_, rfl⟩
  have hT := hT5
  clear hHeld HS HNbz
  replace hBu := hBu.trans (hT.mono hBu.size)
  replace Zf := Zf.below hT
  replace Zr := Zr.below hT
  replace Zn := Zn.below hT
  replace Zm := Zm.below hT
  replace Ze := Ze.below hT
  have HF3 := Lib.hid (HFG.out.below (hbu0.trans (hT.mono hbu0.size)))
  clear hT HFG hbu0
  have lzn := Zn.lt
  have lzm := Zm.lt
  have lze := Ze.lt
  have dnm : nb ≠ mb := by omega
  have dmn : mb ≠ nb := by omega
  have dne : nb ≠ eb := by omega
  have den : eb ≠ nb := by omega
  have dme : mb ≠ eb := by omega
  have dem : eb ≠ mb := by omega
  by_cases hEE : ¬ E = 0
  · have hE3' : (E != 0) = true := by simpa using hEE
    have n0 := b1 Zn
    have m0 := b1 Zm
    have e0 := b1 Ze
    have nf := Zn.fz
    have mf := Zm.fz
    have ef := Ze.fz
    gi_wp2
    refine ⟨.tuple #[.int .i64 0, .int .i64 0, .int .i64 E], by simp [results, Try.results55, go_sem, *], Or.inl ⟨hEE, rfl, ?_⟩⟩
    exact ((hBu.setCell (p := ⟨nb, 0, none⟩) (show w.heap.size ≤ nb by omega) _).setCell (p := ⟨mb, 0, none⟩) (show w.heap.size ≤ mb by omega) _).setCell (p := ⟨eb, 0, none⟩) (show w.heap.size ≤ eb by omega) _
  obtain rfl : E = 0 := by omega
  obtain ⟨rfl, rfl, rfl, rfl⟩ : E0 = 0 ∧ E1 = 0 ∧ E2 = 0 ∧ E3 = 0 := by
    have := firE_all hEX.out
    exact ⟨this _ (by simp), this _ (by simp), this _ (by simp), this _ (by simp)⟩
  obtain ⟨⟨rfl, rfl, rfl, rfl, rfl, rfl, rfl, rfl, rfl, rfl⟩, hP⟩ := HF3.out rfl
  have hok := Lib.hid (pln_ok hE0.out)
  have hru := Lib.hid (ru_ok hE1.out)
  have htt := rngE_bd hE3x.out
  have hS9 : Hid (secT D D.length ≤ 20000) := Lib.hid (by have h := hE2x.out; rw [← hdn.out]; by_cases e : 20000 < secT D n3; rw [if_pos e] at h; exact absurd h (by decide); omega)
  have ht9 : Hid (t ≤ secT D D.length) := Lib.hid (by rw [← hdn.out]; exact htt.2)
  have hshort : Hid (∀ k, (legC a1 G D k).s ≤ 20000) := Lib.hid (fun k => leg_short hok.out hS9.out k)
  have HPx := Lib.hid hP
  obtain ⟨gF, vF, sF, hF⟩ : ∃ (gF : Nat → Nat) (vF sF : Nat → Int), Hid (∀ i : Nat, gF i = ndG a1 G D (t + (i : Int)) ∧ vF i = ndV r a1 G D (t + (i : Int)) ∧ sF i = t + (i : Int)) := ⟨fun i => ndG a1 G D (t + (i : Int)), fun i => ndV r a1 G D (t + (i : Int)), fun i => t + (i : Int), Lib.hid fun i => ⟨rfl, rfl, rfl⟩⟩
  clear hP HF3 hE hEX hEE hE2 hE3
  have l1 := Zf.lt
  have l2 := Zr.lt
  obtain ⟨f0, f1, f2, f3, f4, f5⟩ := b6 Zf
  obtain ⟨r0, r1, r2, r3, r4, r5, r6, r7, r8⟩ := b9 Zr
  gi_wp2_with fail
  refine ⟨trivial, (callsIn_wide.2 (needs_is a0 a1 a2 a3 a4 n2 c2 n3 c3 c4 (secT D n3) r AT tn tc t _)).mono ?_⟩
  rintro e W0 ⟨rfl, hW0⟩
  have hb0 : Below x3.heap.size x3 W0 := by rw [← hW0]; exact (((Below.refl _ _).alloc (Nat.le_refl _) _).alloc (by simp) _).alloc (by simp <;> omega) _
  have ZF : BlkF W0 0 x3.heap.size [.string a0, .int .i64 a1, .slice a2 n2 c2, .slice a3 n3 c3, .slice a4 (n3 + 1) c4, .int .i64 (secT D n3)] := by rw [← hW0]; exact (BlkF.made (B := 0) x3 [.string a0, .int .i64 a1, .slice a2 n2 c2, .slice a3 n3 c3, .slice a4 (n3 + 1) c4, .int .i64 (secT D n3)] 110 (Nat.zero_le _)).below (((Below.refl _ _).alloc (Nat.le_refl _) _).alloc (by simp) _)
  have ZR : BlkF W0 0 (x3.heap.size + 1) [.slice AT tn tc, .int .i64 r.a, .int .i64 r.b, .int .i64 r.nc, .int .i64 r.dn, .int .i64 r.br, .int .i64 r.em, .int .i64 r.pa, .int .i64 r.sc] := by
    rw [← hW0]
    have h := (BlkF.made (B := 0) (x3.alloc (.cells #[.string a0, .int .i64 a1, .slice a2 n2 c2, .slice a3 n3 c3, .slice a4 (n3 + 1) c4, .int .i64 (secT D n3)] 110)) [.slice AT tn tc, .int .i64 r.a, .int .i64 r.b, .int .i64 r.nc, .int .i64 r.dn, .int .i64 r.br, .int .i64 r.em, .int .i64 r.pa, .int .i64 r.sc] 26 (Nat.zero_le _)).below ((Below.refl _ _).alloc (Nat.le_refl _) (.cells #[.int .i64 t] 3))
    simpa using h
  have ZS : BlkF W0 0 (x3.heap.size + 1 + 1) [.int .i64 t] := by
    rw [← hW0]
    have h := BlkF.made (B := 0) ((x3.alloc (.cells #[.string a0, .int .i64 a1, .slice a2 n2 c2, .slice a3 n3 c3, .slice a4 (n3 + 1) c4, .int .i64 (secT D n3)] 110)).alloc (.cells #[.slice AT tn tc, .int .i64 r.a, .int .i64 r.b, .int .i64 r.nc, .int .i64 r.dn, .int .i64 r.br, .int .i64 r.em, .int .i64 r.pa, .int .i64 r.sc] 26)) [.int .i64 t] 3 (Nat.zero_le _)
    simpa using h
  have hsz : W0.heap.size = x3.heap.size + 3 := by rw [← hW0]; simp
  clear hW0 f0 f1 f2 f3 f4 f5 r0 r1 r2 r3 r4 r5 r6 r7 r8
  have hBW := hBu.trans (hb0.mono hBu.size)
  replace Zn := Zn.below hb0
  replace Zm := Zm.below hb0
  replace Ze := Ze.below hb0
  obtain ⟨bs, hbs0⟩ : ∃ bs, bs = x3.heap.size :: (bsO a2 G ++ bsO a3 D ++ bsO a4 (ptL D (n3 + 1))) := ⟨_, rfl⟩
  have hM : FolM bs x3.heap.size a0 a1 G D a2 a3 a4 n2 c2 n3 c3 c4 (secT D n3) W0 := by
    obtain ⟨e0, e1, e2, e3, e4, e5⟩ := b6 ZF
    exact ⟨by rw [hbs0]; simp, ZF.lt, e0, e1, e2, e3, e4, e5, slk_of (hG.out.below hBW) (fun b hb => by rw [hbs0]; simp [hb]), slk_of (hD.out.below hBW) (fun b hb => by rw [hbs0]; simp [hb]), slk_of (HPx.out.below hb0) (fun b hb => by rw [hbs0]; simp [hb])⟩
  have hbs : ∀ b ∈ bs, b < W0.heap.size := by
    intro b hb
    rw [hbs0] at hb
    simp only [List.mem_cons, List.mem_append] at hb
    have hw := hBW.size
    rcases hb with rfl | (hb | hb) | hb
    · omega
    · have := bsO_lt hG.out b hb; omega
    · have := bsO_lt hD.out b hb; omega
    · have := bsO_lt HPx.out b hb; omega
  have hbsc : ∀ b ∈ bs, b ∉ ([] : List Nat) ∧ ∃ o, W0.heap[b]? = some o ∧ o.isCells = true := by
    intro b hb
    refine ⟨by simp, ?_⟩
    rw [hbs0] at hb
    simp only [List.mem_cons, List.mem_append] at hb
    rcases hb with rfl | (hb | hb) | hb
    · exact cells_of hM.c0
    · exact bsO_cells gaV_len (hG.out.below hBW) b hb
    · exact bsO_cells leV_len (hD.out.below hBW) b hb
    · exact bsO_cells ptV_len (HPx.out.below hb0) b hb
  obtain ⟨N, hN⟩ : ∃ N, W0.heap.size = N := ⟨_, rfl⟩
  have ln := Zn.lt
  have lm := Zm.lt
  have le := Ze.lt
  gi_wp2
  refine wpIn_rangeFunc_pos (Kt := fun _ _ => True) (K2 := KeepX []) (by decide) (gf := 116) (lb := #[.pointer (some ⟨x3.heap.size + 1 + 1, 0, none⟩), .pointer (some ⟨x3.heap.size, 0, none⟩), .pointer (some ⟨x3.heap.size + 1, 0, none⟩)]) rfl (enters_of Try.func116 (by kernel_rfl) rfl)
    (needs_posF (12 - 1) (by decide) bs x3.heap.size (x3.heap.size + 1 + 1) (x3.heap.size + 1) a0 a1 G D a2 a3 a4 n2 c2 n3 c3 c4 (secT D n3) T r AT tn tc t [] W0 gF vF sF hF hgn hdn hok hru hshort hM hbs hbsc (fun b hb => absurd hb (by simp)) (by simp) ZS ZR htt.1 ht9 hS9) (fun _ _ => trivial) (fun _ _ _ _ _ _ _ _ => trivial) (Below.refl _ _) (fun _ => rfl)
    (fun k X => k = 0 ∧ (BlkF X w.heap.size nb [.int .i64 0] ∧ BlkF X w.heap.size mb [.int .i64 0] ∧ BlkF X w.heap.size eb [.int .i64 0]) ∧ Below w.heap.size w X ∧ N ≤ X.heap.size)
    (fun c k X => (c = .ret ∧ k = 0 ∧ (BlkF X w.heap.size nb [.int .i64 (gF 0 : Int)] ∧ BlkF X w.heap.size mb [.int .i64 (vF 0)] ∧ BlkF X w.heap.size eb [.int .i64 0])) ∧ Below w.heap.size w X)
    (fun k X Y row hs hg hr => ⟨hs.1, ⟨blk_own (β := Unit) (by simp) () X Y row hs.2.1.1 hg hr, blk_own (β := Unit) (by simp) () X Y row hs.2.1.2.1 hg hr, blk_own (β := Unit) (by simp) () X Y row hs.2.1.2.2 hg hr⟩, ownFrom_below (β := Unit) (Nat.le_refl _) (by have := hBW.size; omega) () X Y row hs.2.2.1 hg hr, Nat.le_trans hs.2.2.2 hg.size⟩)
    (fun c k X Y row hs hg hr => ⟨⟨hs.1.1, hs.1.2.1, blk_own (β := Unit) (by simp) () X Y row hs.1.2.2.1 hg hr, blk_own (β := Unit) (by simp) () X Y row hs.1.2.2.2.1 hg hr, blk_own (β := Unit) (by simp) () X Y row hs.1.2.2.2.2 hg hr⟩, ownFrom_below (β := Unit) (Nat.le_refl _) (by have := hBW.size; omega) () X Y row hs.2 hg hr⟩)
    (fun k X Y hs hb => ⟨hs.1, ⟨hs.2.1.1.low hb ln, hs.2.1.2.1.low hb lm, hs.2.1.2.2.low hb le⟩, hs.2.2.1.trans (hb.mono hBW.size), Nat.le_trans hs.2.2.2 hb.size⟩)
    (fun k X Y _ hs => absurd hs.1 (by omega))
    ⟨rfl, ⟨Zn, Zm, Ze⟩, hBW, by omega⟩
    (fun k a' X => ∃ Bx t0 t1 t2 t3 t4 t5 t9 t10 t13 t14 t15 t16 t17 t18 t19 t20 t21 t22 t23 t24 t25 t26 t27 t28 t29 t30 t31 t32 t33 t34 t35 t36 t37 t38 t39, N ≤ Bx ∧ BlkF X N Bx [.int .i64 (vF k), .int .i64 (sF k)] ∧ a' = { tmps := #[t0, t1, t2, t3, t4, t5, .pointer (some ⟨nb, 0, none⟩), .pointer (some ⟨mb, 0, none⟩), .pointer (some ⟨eb, 0, none⟩), t9, t10, .int .i64 (gF k : Int), .pointer (some ⟨Bx, 0, none⟩), t13, t14, t15, t16, t17, t18, t19, t20, t21, t22, t23, t24, t25, t26, t27, t28, t29, t30, t31, t32, t33, t34, t35, t36, t37, t38, t39], defers := [] })
    (fun k a' _ X Y row hs hg hr => by obtain ⟨Bx, t0, t1, t2, t3, t4, t5, t9, t10, t13, t14, t15, t16, t17, t18, t19, t20, t21, t22, t23, t24, t25, t26, t27, t28, t29, t30, t31, t32, t33, t34, t35, t36, t37, t38, t39, h1, h2, h3⟩ := hs; exact ⟨Bx, t0, t1, t2, t3, t4, t5, t9, t10, t13, t14, t15, t16, t17, t18, t19, t20, t21, t22, t23, t24, t25, t26, t27, t28, t29, t30, t31, t32, t33, t34, t35, t36, t37, t38, t39, h1, blk_own (β := Unit) (by simp) () X Y row h2 hg hr, h3⟩)
    ?assign ?body ?done ?stop
  case assign =>
    rintro l2 k X K hk hi hK
    have hk0 := hi.1
    subst hk0
    have hNX : N ≤ X.heap.size := hi.2.2.2
    gi_wp2
    have hb9 : Below X.heap.size X (X.alloc (.cells #[.int .i64 (vF 0), .int .i64 (sF 0)] 142)) := (Below.refl _ _).alloc (Nat.le_refl _) _
    refine hK _ _ (keepsFrom_below _ hb9) trivial ?_ ⟨X.heap.size, _, _, _, _, _, _, _, _, _, _, _, _, _, _, _, _, _, _, _, _, _, _, _, _, _, _, _, _, _, _, _, _, _, _, _, hNX, BlkF.made (B := N) X [.int .i64 (vF 0), .int .i64 (sF 0)] 142 hNX, rfl⟩
    exact ⟨hi.1, ⟨hi.2.1.1.below hb9, hi.2.1.2.1.below hb9, hi.2.1.2.2.below hb9⟩, hi.2.2.1.trans (hb9.mono hi.2.2.1.size), Nat.le_trans hNX hb9.size⟩
  case body =>
    rintro l2 k a' X hl hk ⟨rfl, ⟨Zn, Zm, Ze⟩, hBX, hNX⟩ ⟨Bx, t0, t1, t2, t3, t4, t5, t9, t10, t13, t14, t15, t16, t17, t18, t19, t20, t21, t22, t23, t24, t25, t26, t27, t28, t29, t30, t31, t32, t33, t34, t35, t36, t37, t38, t39, hBx, HB2, rfl⟩
    obtain ⟨gk, hgk⟩ : ∃ z, gF 0 = z := ⟨_, rfl⟩
    obtain ⟨am, ham⟩ : ∃ z, vF 0 = z := ⟨_, rfl⟩
    obtain ⟨t9, ht9⟩ : ∃ z, sF 0 = z := ⟨_, rfl⟩
    rw [ham, ht9] at HB2
    rw [hgk, ham]
    clear hgk ham ht9
    obtain ⟨i0, i1⟩ := b2 HB2
    have lb := HB2.lt
    have HS : Hid (∀ y, Below X.heap.size X y → y.cell? ⟨Bx, 0, none⟩ = some (.int .i64 am)) := Lib.hid fun y hy => (hy.cell (p := ⟨Bx, 0, none⟩) lb).trans i0
    clear i0 i1
    gi_upto_region 8 with (fail)
    refine wpIn_np ?_
    refine wpIn_round_held (S := (fun w' => w'.cell? ⟨Bx, 0, none⟩ = some (.int .i64 am))) (by kernel_rfl) (by kernel_rfl) not_letsOut_np (HS.out _ (Below.refl _ _).drew) (fun hHeld => ?_)
    have hT0 : Below X.heap.size X X.drew := (Below.refl _ _).drew
    generalize hdr : X.drew = v0 at *
    clear hdr
    refine tkH 0 ⟨some 37, _, _, _, _, _⟩ ?_ rfl ?_ (by assumption) ?_
    rotate_left
    · (intro w hSw; (try dsimp only at hSw); go_simp; all_goals with_reducible rfl)
    try simp only [Act.put, sA, sB, sC]
    refine tkH 1 ⟨some 38, _, _, _, _, _⟩ ?_ rfl ?_ (by assumption) ?_
    rotate_left
    · (intro w hSw; (try dsimp only at hSw); go_simp; all_goals with_reducible rfl)
    try simp only [Act.put, sA, sB, sC]
    refine tkH 2 ⟨some 39, _, _, _, _, _⟩ ?_ rfl ?_ (by assumption) ?_
    rotate_left
    · (intro w hSw; (try dsimp only at hSw); go_simp; all_goals with_reducible rfl)
    try simp only [Act.put, sA, sB, sC]
    refine wpAnyH_ready (rs := [3]) (by kernel_rfl) (by simp) ?_
    refine AllReadyH.cons rfl (fun K hK => ?_) (AllReadyH.nil)
    have Fn := Zn.below hT0
    have Fm := Zm.below hT0
    have Fe := Ze.below hT0
    have FB := hBX.trans (hT0.mono hBX.size)
    have FK := keepsFrom_below N hT0
    have FS := HS.out _ hT0
    have u0 := b1 Fn
    have uf := Fn.fz
    go_simp
    go_wp2_with fail
    have FS2 : (v0.setCell ⟨nb, 0, none⟩ (.int .i64 (gk : Int))).cell? ⟨Bx, 0, none⟩ = some (.int .i64 am) := (World.cell?_of_block (a := ⟨Bx, 0, none⟩) (Below.heap_setCell _ _ _ Bx (by show Bx ≠ nb; omega))).trans FS
    refine hK.out _ _ FS2 (fun hHeld => ?_)
    clear hK K FS u0 uf
    try simp only [Act.put, sA, sB, sC]
    have Gn : BlkF (v0.setCell ⟨nb, 0, none⟩ (.int .i64 (gk : Int))) w.heap.size nb [.int .i64 (gk : Int)] := BlkF.st (vs' := [.int .i64 (gk : Int)]) Fn rfl
    have Gm : BlkF (v0.setCell ⟨nb, 0, none⟩ (.int .i64 (gk : Int))) w.heap.size mb [.int .i64 0] := Fm.other (c := nb) (i := 0) (l := [.int .i64 (gk : Int)]) (by omega)
    have Ge : BlkF (v0.setCell ⟨nb, 0, none⟩ (.int .i64 (gk : Int))) w.heap.size eb [.int .i64 0] := Fe.other (c := nb) (i := 0) (l := [.int .i64 (gk : Int)]) (by omega)
    have GB : Below w.heap.size w (v0.setCell ⟨nb, 0, none⟩ (.int .i64 (gk : Int))) := FB.setCell (p := ⟨nb, 0, none⟩) (show w.heap.size ≤ nb by omega) (.int .i64 (gk : Int))
    have GK : KeepsFrom N X (v0.setCell ⟨nb, 0, none⟩ (.int .i64 (gk : Int))) := FK.trans ((KeepsOthers.setCell _ _ _).from _)
    clear Fn Fm Fe FB FK
    generalize hq0 : (v0.setCell ⟨nb, 0, none⟩ (.int .i64 (gk : Int))) = v1 at Gn Gm Ge GB GK FS2 hHeld ⊢
    clear hq0
    have Fn := Gn
    have Fm := Gm
    have Fe := Ge
    have FB := GB
    have FK := GK
    have FS := FS2
    clear Gn Gm Ge GB GK FS2
    refine wpAnyH_ready (rs := [4]) (by kernel_rfl) (by simp) ?_
    refine AllReadyH.cons rfl (fun K hK => ?_) (AllReadyH.nil)
    have u0 := b1 Fm
    have uf := Fm.fz
    go_simp
    go_wp2_with fail
    have FS2 : (v1.setCell ⟨mb, 0, none⟩ (.int .i64 am)).cell? ⟨Bx, 0, none⟩ = some (.int .i64 am) := (World.cell?_of_block (a := ⟨Bx, 0, none⟩) (Below.heap_setCell _ _ _ Bx (by show Bx ≠ mb; omega))).trans FS
    refine hK.out _ _ FS2 (fun hHeld => ?_)
    clear hK K FS u0 uf
    try simp only [Act.put, sA, sB, sC]
    have Gn : BlkF (v1.setCell ⟨mb, 0, none⟩ (.int .i64 am)) w.heap.size nb [.int .i64 (gk : Int)] := Fn.other (c := mb) (i := 0) (l := [.int .i64 am]) (by omega)
    have Gm : BlkF (v1.setCell ⟨mb, 0, none⟩ (.int .i64 am)) w.heap.size mb [.int .i64 am] := BlkF.st (vs' := [.int .i64 am]) Fm rfl
    have Ge : BlkF (v1.setCell ⟨mb, 0, none⟩ (.int .i64 am)) w.heap.size eb [.int .i64 0] := Fe.other (c := mb) (i := 0) (l := [.int .i64 am]) (by omega)
    have GB : Below w.heap.size w (v1.setCell ⟨mb, 0, none⟩ (.int .i64 am)) := FB.setCell (p := ⟨mb, 0, none⟩) (show w.heap.size ≤ mb by omega) (.int .i64 am)
    have GK : KeepsFrom N X (v1.setCell ⟨mb, 0, none⟩ (.int .i64 am)) := FK.trans ((KeepsOthers.setCell _ _ _).from _)
    clear Fn Fm Fe FB FK
    generalize hq1 : (v1.setCell ⟨mb, 0, none⟩ (.int .i64 am)) = v2 at Gn Gm Ge GB GK FS2 hHeld ⊢
    clear hq1
    have Fn := Gn
    have Fm := Gm
    have Fe := Ge
    have FB := GB
    have FK := GK
    have FS := FS2
    clear Gn Gm Ge GB GK FS2
    refine wpAnyH_ready (rs := [5]) (by kernel_rfl) (by simp) ?_
    refine AllReadyH.cons rfl (fun K hK => ?_) (AllReadyH.nil)
    have u0 := b1 Fe
    have uf := Fe.fz
    go_simp
    go_wp2_with fail
    have FS2 : (v2.setCell ⟨eb, 0, none⟩ (.int .i64 0)).cell? ⟨Bx, 0, none⟩ = some (.int .i64 am) := (World.cell?_of_block (a := ⟨Bx, 0, none⟩) (Below.heap_setCell _ _ _ Bx (by show Bx ≠ eb; omega))).trans FS
    refine hK.out _ _ FS2 (fun hHeld => ?_)
    clear hK K FS u0 uf
    try simp only [Act.put, sA, sB, sC]
    have Gn : BlkF (v2.setCell ⟨eb, 0, none⟩ (.int .i64 0)) w.heap.size nb [.int .i64 (gk : Int)] := Fn.other (c := eb) (i := 0) (l := [.int .i64 0]) (by omega)
    have Gm : BlkF (v2.setCell ⟨eb, 0, none⟩ (.int .i64 0)) w.heap.size mb [.int .i64 am] := Fm.other (c := eb) (i := 0) (l := [.int .i64 0]) (by omega)
    have Ge : BlkF (v2.setCell ⟨eb, 0, none⟩ (.int .i64 0)) w.heap.size eb [.int .i64 0] := BlkF.st (vs' := [.int .i64 0]) Fe rfl
    have GB : Below w.heap.size w (v2.setCell ⟨eb, 0, none⟩ (.int .i64 0)) := FB.setCell (p := ⟨eb, 0, none⟩) (show w.heap.size ≤ eb by omega) (.int .i64 0)
    have GK : KeepsFrom N X (v2.setCell ⟨eb, 0, none⟩ (.int .i64 0)) := FK.trans ((KeepsOthers.setCell _ _ _).from _)
    clear Fn Fm Fe FB FK
    generalize hq2 : (v2.setCell ⟨eb, 0, none⟩ (.int .i64 0)) = v3 at Gn Gm Ge GB GK FS2 hHeld ⊢
    clear hq2
    have Fn := Gn
    have Fm := Gm
    have Fe := Ge
    have FB := GB
    have FK := GK
    have FS := FS2
    clear Gn Gm Ge GB GK FS2
    refine wpAnyH_done (by kernel_rfl) ?_ _
    clear hHeld HS FS
    have HF := Lib.hid (And.intro Fn (And.intro Fm (And.intro Fe (And.intro FB FK))))
    clear Fn Fm Fe FB FK
    gi_wp2
    exact ⟨by rw [hN]; exact HF.out.2.2.2.2, ⟨rfl, rfl, HF.out.1, HF.out.2.1, HF.out.2.2.1⟩, HF.out.2.2.2.1⟩
  case done =>
    rintro Dq X hDq ⟨h0, ⟨Zn, Zm, Ze⟩, hBX, _⟩ hK
    have hd0 : n3 = 0 := by
      unfold ndN at h0
      rw [hdn.out]
      by_cases e : D.length = 0
      · exact e
      · rw [if_neg e] at h0; have := ht9.out; omega
    obtain rfl : gk = 0 := by rw [← hgk.out, if_pos hd0]
    obtain rfl : am = 0 := by rw [← ham.out, if_pos hd0]
    obtain rfl : z = 12 := by rw [← hz9.out, if_pos hd0]
    have n0 := b1 Zn
    have m0 := b1 Zm
    have e0 := b1 Ze
    have nf := Zn.fz
    have mf := Zm.fz
    have ef := Ze.fz
    have zn := Zn.lt
    have zm := Zm.lt
    have ze := Ze.lt
    clear hd0 h0
    gi_wp2
    have Z1 : BlkF (((X.setCell ⟨nb, 0, none⟩ (.int .i64 0)).setCell ⟨mb, 0, none⟩ (.int .i64 0)).setCell ⟨eb, 0, none⟩ (.int .i64 12)) w.heap.size nb [.int .i64 0] := ((BlkF.st (vs' := [.int .i64 0]) Zn rfl).other (c := mb) (i := 0) (l := [.int .i64 0]) dnm).other (c := eb) (i := 0) (l := [.int .i64 12]) dne
    have Z2 : BlkF (((X.setCell ⟨nb, 0, none⟩ (.int .i64 0)).setCell ⟨mb, 0, none⟩ (.int .i64 0)).setCell ⟨eb, 0, none⟩ (.int .i64 12)) w.heap.size mb [.int .i64 0] := (BlkF.st (vs' := [.int .i64 0]) (Zm.other (c := nb) (i := 0) (l := [.int .i64 0]) dmn) rfl).other (c := eb) (i := 0) (l := [.int .i64 12]) dme
    have Z3 : BlkF (((X.setCell ⟨nb, 0, none⟩ (.int .i64 0)).setCell ⟨mb, 0, none⟩ (.int .i64 0)).setCell ⟨eb, 0, none⟩ (.int .i64 12)) w.heap.size eb [.int .i64 12] := BlkF.st (vs' := [.int .i64 12]) ((Ze.other (c := nb) (i := 0) (l := [.int .i64 0]) den).other (c := mb) (i := 0) (l := [.int .i64 0]) dem) rfl
    have hB4 : Below w.heap.size w (((X.setCell ⟨nb, 0, none⟩ (.int .i64 0)).setCell ⟨mb, 0, none⟩ (.int .i64 0)).setCell ⟨eb, 0, none⟩ (.int .i64 12)) := ((hBX.setCell (p := ⟨nb, 0, none⟩) (show w.heap.size ≤ nb by omega) _).setCell (p := ⟨mb, 0, none⟩) (show w.heap.size ≤ mb by omega) _).setCell (p := ⟨eb, 0, none⟩) (show w.heap.size ≤ eb by omega) _
    have hK4 : (((X.setCell ⟨nb, 0, none⟩ (.int .i64 0)).setCell ⟨mb, 0, none⟩ (.int .i64 0)).setCell ⟨eb, 0, none⟩ (.int .i64 12)).heap[Dq]? = some (.deferred (some [])) := (Below.heap_setCell _ _ _ Dq (by show Dq ≠ eb; omega)).trans ((Below.heap_setCell _ _ _ Dq (by show Dq ≠ mb; omega)).trans ((Below.heap_setCell _ _ _ Dq (by show Dq ≠ nb; omega)).trans hK))
    refine ⟨by simp, .inl ⟨_, _, rfl, run_takeDeferred hK4, ?_⟩⟩
    generalize ((X.setCell ⟨nb, 0, none⟩ (.int .i64 0)).setCell ⟨mb, 0, none⟩ (.int .i64 0)).setCell ⟨eb, 0, none⟩ (.int .i64 12) = V at Z1 Z2 Z3 hB4 hK4 ⊢
    have n1 : (V.putObj Dq (.deferred none)).cell? ⟨nb, 0, none⟩ = some (.int .i64 0) := (World.cell?_of_block (a := ⟨nb, 0, none⟩) (World.putObj_heap_other (show nb ≠ Dq by omega))).trans (b1 Z1)
    have m1 : (V.putObj Dq (.deferred none)).cell? ⟨mb, 0, none⟩ = some (.int .i64 0) := (World.cell?_of_block (a := ⟨mb, 0, none⟩) (World.putObj_heap_other (show mb ≠ Dq by omega))).trans (b1 Z2)
    have e1 : (V.putObj Dq (.deferred none)).cell? ⟨eb, 0, none⟩ = some (.int .i64 12) := (World.cell?_of_block (a := ⟨eb, 0, none⟩) (World.putObj_heap_other (show eb ≠ Dq by omega))).trans (b1 Z3)
    have hBY : Below w.heap.size w (V.putObj Dq (.deferred none)) := hB4.trans (belowK_b (w := w) (Nat.le_refl _) V Dq _ _ (by have := hBW.size; omega) hK4 rfl rfl)
    generalize V.putObj Dq (.deferred none) = Y at n1 m1 e1 hBY ⊢
    clear hK hK4 hB4 hBX n0 m0 e0 nf mf ef Z1 Z2 Z3 Zn Zm Ze
    first | exact ⟨.tuple #[.int .i64 0, .int .i64 0, .int .i64 12], by simp [results, Try.results55, go_sem, *], rfl, hBY⟩ | exact ⟨.tuple #[.int .i64 0, .int .i64 0, .int .i64 12], by simp [results, Try.results55, go_sem, *], Or.inr ⟨rfl, rfl, hBY⟩⟩
  case stop =>
    rintro Dq c k X hDq hk ⟨⟨rfl, rfl, Zn, Zm, Ze⟩, hBX⟩ hK
    have hd0 : ¬ n3 = 0 := fun e => by unfold ndN at hk; rw [if_pos (by rw [← hdn.out]; exact e)] at hk; omega
    obtain ⟨h1, h2, _⟩ := hF.out 0
    have e9 : t + ((0 : Nat) : Int) = t := by omega
    rw [e9] at h1 h2
    have h3 : (gF 0 : Int) = gk := by rw [← hgk.out, if_neg hd0, h1]
    have h4 : vF 0 = am := by rw [← ham.out, if_neg hd0, h2]
    obtain rfl : z = 0 := by rw [← hz9.out, if_neg hd0]
    rw [h3] at Zn
    rw [h4] at Zm
    clear h1 h2 h3 h4 e9 hd0
    have n0 := b1 Zn
    have m0 := b1 Zm
    have e0 := b1 Ze
    gi_wp2
    refine ⟨by simp, .inl ⟨_, _, rfl, run_takeDeferred hK, ?_⟩⟩
    have n1 : (X.putObj Dq (.deferred none)).cell? ⟨nb, 0, none⟩ = some (.int .i64 gk) := (World.cell?_of_block (a := ⟨nb, 0, none⟩) (World.putObj_heap_other (show nb ≠ Dq by omega))).trans n0
    have m1 : (X.putObj Dq (.deferred none)).cell? ⟨mb, 0, none⟩ = some (.int .i64 am) := (World.cell?_of_block (a := ⟨mb, 0, none⟩) (World.putObj_heap_other (show mb ≠ Dq by omega))).trans m0
    have e1 : (X.putObj Dq (.deferred none)).cell? ⟨eb, 0, none⟩ = some (.int .i64 0) := (World.cell?_of_block (a := ⟨eb, 0, none⟩) (World.putObj_heap_other (show eb ≠ Dq by omega))).trans e0
    have hBY : Below w.heap.size w (X.putObj Dq (.deferred none)) := hBX.trans (belowK_b (w := w) (Nat.le_refl _) X Dq _ _ (by have := hBW.size; omega) hK rfl rfl)
    generalize X.putObj Dq (.deferred none) = Y at n1 m1 e1 hBY ⊢
    clear hK hBX n0 m0 e0
    first | exact ⟨.tuple #[.int .i64 gk, .int .i64 am, .int .i64 0], by simp [results, Try.results55, go_sem, *], rfl, hBY⟩ | exact ⟨.tuple #[.int .i64 gk, .int .i64 am, .int .i64 0], by simp [results, Try.results55, go_sem, *], Or.inr ⟨rfl, rfl, hBY⟩⟩
end Go.Proofs.Ytijdphlejokijaa
