import Derived.Test.YtijdphlejokijaaGreatERSESva
import Derived.Test.YtijdphlejokijaaGreatERSTSet
import Derived.Outline
namespace Go.Proofs.YtijdphlejokijaaGreat
open Go.Shelf Go.ChangeShapes Go.WideShapes Go.ChangeAt Go.RowKit
set_option linter.unusedVariables false
set_option linter.unusedSimpArgs false
attribute [local go_sem] Oper.semAt_some
attribute [local go_sem ↓] Go.wp_at_zero Go.wp_at_succ
theorem BoxN.below {X Y : World} {b : Nat} {t : TypeId} {vs : List Value} (h : BoxN X b t vs) (hb : Below X.heap.size X Y) : BoxN Y b t vs := (hb.block b h.lt).trans h
theorem SlRows.otherB {α : Type} {f : α → List Value} {n : Nat} {u : World} {A : Option Addr} {L : List α} {c i : Nat} {l : List Value} (h : SlRows f n u A L) (hc : ∀ ad, A = some ad → ad.block ≠ c) : SlRows f n (stW u c i l) A L := by
  rcases h with h | ⟨b, o, rfl, hl, hR⟩
  · exact Or.inl h
  · exact Or.inr ⟨b, o, rfl, by rw [stW_size]; exact hl, fun k hk j hj => (stW_oc (hc _ rfl) _).trans (hR k hk j hj)⟩
theorem FolG.other {nm : ByteArray} {s : Int} {A : Option Addr} {gn gc : Nat} {B : Option Addr} {dn dc : Nat} {D : List Le} {E : Int} {a0 : ByteArray} {a1 : Int} {a2 : Option Addr} {n2 c2 : Nat} {a3 : Option Addr} {n3 c3 : Nat} {a4 : Option Addr} {n4 c4 : Nat} {a5 : Int} {X : World} {c i : Nat} {l : List Value} (h : FolG nm s A gn gc B dn dc D E a0 a1 a2 n2 c2 a3 n3 c3 a4 n4 c4 a5 X) (hc : E = 0 → ∀ ad, a4 = some ad → ad.block ≠ c) : FolG nm s A gn gc B dn dc D E a0 a1 a2 n2 c2 a3 n3 c3 a4 n4 c4 a5 (stW X c i l) :=
  fun e => ⟨(h e).1, (h e).2.otherB (hc e)⟩
theorem pt_ne_box {X : World} {A : Option Addr} {L : List Pt} {rb : Nat} {t : TypeId} (h : SlRows ptV 2 X A L) (h0 : 0 < L.length) (hb : BoxN X rb t [.string ⟨#[]⟩, .int .i64 0, .slice none 0 0, .slice none 0 0, .slice none 0 0, .int .i64 0]) : ∀ ad, A = some ad → ad.block ≠ rb := by
  intro ad e hc
  rcases h with h | ⟨b, o, e2, _, hR⟩
  · rw [h] at h0; simp at h0
  · rw [e2] at e
    cases e
    subst hc
    have k0 := hR 0 h0 0 (by omega)
    have k1 := hR 0 h0 1 (by omega)
    have hb2 : X.heap[b]? = _ := hb
    simp [World.cell?, hb2, ptV] at k0 k1
    rcases o with _ | _ | _ | _ | _ | _ | o <;> simp at k0 k1
set_option maxRecDepth 100000 in
set_option maxHeartbeats 8000000 in
theorem followWith_x (nm : ByteArray) (s : Int) (G : List Ga) (D : List Le) (A B : Option Addr) (gn gc dn dc : Nat) (T : List Ox) (r : Ru) (AT : Option Addr) (tn tc : Nat) (L : List Int) (C : Option Addr) (an cc : Nat) (N : Nat) (E0 E1 E : Int) (w : World) (hz : nm.size ≤ 9223372036854775807) (hgn : Hid (gn = G.length)) (hgl : gn ≤ 9223372036854775807) (hdn : Hid (dn = D.length)) (hdl : dn ≤ 9223372036854775807) (hG : Hid (SlRows gaV 2 w A G)) (hD : Hid (SlRows leV 3 w B D)) (htn : Hid (tn = T.length)) (htl : tn ≤ 9223372036854775807) (hT : Hid (SlRows oxV 2 w AT T)) (han : Hid (an = L.length)) (hal : an ≤ 1000000) (hC : Hid (SlRows inV 1 w C L)) (hE0 : Hid (plnP nm s G D = (N, E0))) (hE1 : Hid (ruE T r = E1)) (hE : Hid (firE [E0, E1, amE L gn, if 20000 < secT D dn then (8 : Int) else 0] = E)) :
    Calls Tryz.prog 38 #[.agg #[.string nm, .int .i64 s, .slice A gn gc, .slice B dn dc], .agg #[.slice AT tn tc, .int .i64 r.a, .int .i64 r.b, .int .i64 r.nc, .int .i64 r.dn, .int .i64 r.br, .int .i64 r.em, .int .i64 r.pa, .int .i64 r.sc], .slice C an cc] w fun e w' => ∃ a0 a1 a2 n2 c2 a3 n3 c3 a4 n4 c4 a5, e = .returned (.tuple #[.agg #[.string a0, .int .i64 a1, .slice a2 n2 c2, .slice a3 n3 c3, .slice a4 n4 c4, .int .i64 a5], .int .i64 E]) ∧ n3 ≤ 9223372036854775807 ∧ n2 ≤ 9223372036854775807 ∧ FolG nm s A gn gc B dn dc D E0 a0 a1 a2 n2 c2 a3 n3 c3 a4 n4 c4 a5 w' ∧ Below w.heap.size w w' := by
  go_enter Tryz.func38, Tryz.ntmps38
  go_wp2_with fail
  refine (follow_x nm s G D A B gn gc dn dc N E0 _ hz hgn hgl hdn hdl (Lib.hid (hG.out.below (by (repeat (first | (with_reducible refine Below.drew ?_) | (with_reducible refine below_drewN ?_ _) | (with_reducible refine Below.alloc ?_ (by first | omega | (simp; done) | (simp; omega) | (simp at *; omega)) _) | (with_reducible refine Below.setCell ?_ (by first | omega | (simp; done) | (simp; omega) | (simp at *; omega)) _) | (with_reducible exact Below.refl _ _) | (with_reducible assumption) | (with_reducible refine Below.trans ?_ (Below.mono (by assumption) (by first | omega | (simp; done) | (simp; omega) | (simp at *; omega))))))))) (Lib.hid (hD.out.below (by (repeat (first | (with_reducible refine Below.drew ?_) | (with_reducible refine below_drewN ?_ _) | (with_reducible refine Below.alloc ?_ (by first | omega | (simp; done) | (simp; omega) | (simp at *; omega)) _) | (with_reducible refine Below.setCell ?_ (by first | omega | (simp; done) | (simp; omega) | (simp at *; omega)) _) | (with_reducible exact Below.refl _ _) | (with_reducible assumption) | (with_reducible refine Below.trans ?_ (Below.mono (by assumption) (by first | omega | (simp; done) | (simp; omega) | (simp at *; omega))))))))) hE0).mono ?_
  rintro e x1 ⟨a0, a1, a2, n2, c2, a3, n3, c3, a4, n4, c4, a5, rfl, hn3, hn2, hfg, hb1⟩
  have hc1 : Below w.heap.size w x1 := ((((Below.refl _ _).alloc (by first | exact Nat.le_refl _ | (simp; done) | (simp; omega)) _).alloc (by first | exact Nat.le_refl _ | (simp; done) | (simp; omega)) _).alloc (by first | exact Nat.le_refl _ | (simp; done) | (simp; omega)) _).trans (hb1.mono (by first | exact Nat.le_refl _ | (simp; done) | (simp; omega)))
  have hB1 : Below w.heap.size w x1 := hc1
  have zu1 := hB1.size
  have PB : Hid (BlkF x1 w.heap.size (w.heap.size) [.string nm, .int .i64 s, .slice A gn gc, .slice B dn dc]) := Lib.hid ((((BlkF.made (B := w.heap.size) w [.string nm, .int .i64 s, .slice A gn gc, .slice B dn dc] 25 (by first | exact Nat.le_refl _ | (simp; done) | (simp; omega))).below ((Below.refl _ _).alloc (Nat.le_refl _) _)).below ((Below.refl _ _).alloc (Nat.le_refl _) _)).below hb1)
  have zPB1 := PB.out.lt
  have RB : Hid (BlkF x1 w.heap.size (w.heap.size + 1) [.slice AT tn tc, .int .i64 r.a, .int .i64 r.b, .int .i64 r.nc, .int .i64 r.dn, .int .i64 r.br, .int .i64 r.em, .int .i64 r.pa, .int .i64 r.sc]) := Lib.hid (by have := ((BlkF.made (B := w.heap.size) (w.alloc (.cells #[.string nm, .int .i64 s, .slice A gn gc, .slice B dn dc] 25)) [.slice AT tn tc, .int .i64 r.a, .int .i64 r.b, .int .i64 r.nc, .int .i64 r.dn, .int .i64 r.br, .int .i64 r.em, .int .i64 r.pa, .int .i64 r.sc] 30 (by first | exact Nat.le_refl _ | (simp; done) | (simp; omega))).below ((Below.refl _ _).alloc (Nat.le_refl _) _)).below hb1; simpa using this)
  have zRB1 := RB.out.lt
  have ZB : Hid (BlkF x1 w.heap.size (w.heap.size + 1 + 1) [.string ⟨#[]⟩, .int .i64 0, .slice none 0 0, .slice none 0 0, .slice none 0 0, .int .i64 0]) := Lib.hid (by have := (BlkF.made (B := w.heap.size) ((w.alloc (.cells #[.string nm, .int .i64 s, .slice A gn gc, .slice B dn dc] 25)).alloc (.cells #[.slice AT tn tc, .int .i64 r.a, .int .i64 r.b, .int .i64 r.nc, .int .i64 r.dn, .int .i64 r.br, .int .i64 r.em, .int .i64 r.pa, .int .i64 r.sc] 30)) [.string ⟨#[]⟩, .int .i64 0, .slice none 0 0, .slice none 0 0, .slice none 0 0, .int .i64 0] 70 (by first | exact Nat.le_refl _ | (simp; done) | (simp; omega))).below hb1; simpa using this)
  have zZB1 := ZB.out.lt
  have HFG := Lib.hid hfg
  clear hfg
  have ZX : Hid (BoxN x1 (w.heap.size + 1 + 1) 70 [.string ⟨#[]⟩, .int .i64 0, .slice none 0 0, .slice none 0 0, .slice none 0 0, .int .i64 0]) := Lib.hid (by have := (BoxN.new ((w.alloc (.cells #[.string nm, .int .i64 s, .slice A gn gc, .slice B dn dc] 25)).alloc (.cells #[.slice AT tn tc, .int .i64 r.a, .int .i64 r.b, .int .i64 r.nc, .int .i64 r.dn, .int .i64 r.br, .int .i64 r.em, .int .i64 r.pa, .int .i64 r.sc] 30)) 70 [.string ⟨#[]⟩, .int .i64 0, .slice none 0 0, .slice none 0 0, .slice none 0 0, .int .i64 0]).below hb1; simpa using this)
  clear hb1
  obtain ⟨PB_1_0, PB_1_1, PB_1_2, PB_1_3⟩ := b4 PB.out
  have lPB_1 := PB.out.lt
  have nPB_1 : x1.heap.size ≠ w.heap.size := by omega
  have mPB_1 : w.heap.size ≠ x1.heap.size := by omega
  obtain ⟨RB_1_0, RB_1_1, RB_1_2, RB_1_3, RB_1_4, RB_1_5, RB_1_6, RB_1_7, RB_1_8⟩ := b9 RB.out
  have lRB_1 := RB.out.lt
  have nRB_1 : x1.heap.size ≠ w.heap.size + 1 := by omega
  have mRB_1 : w.heap.size + 1 ≠ x1.heap.size := by omega
  obtain ⟨ZB_1_0, ZB_1_1, ZB_1_2, ZB_1_3, ZB_1_4, ZB_1_5⟩ := b6 ZB.out
  have lZB_1 := ZB.out.lt
  have nZB_1 : x1.heap.size ≠ w.heap.size + 1 + 1 := by omega
  have mZB_1 : w.heap.size + 1 + 1 ≠ x1.heap.size := by omega
  obtain ⟨E2, hE2x⟩ : ∃ z, Hid (amE L n2 = z) := ⟨_, Lib.hid rfl⟩
  obtain ⟨E3, hE3x⟩ : ∃ z : Int, Hid ((if 20000 < a5 then (8 : Int) else 0) = z) := ⟨_, Lib.hid rfl⟩
  have hEX : Hid (firE [E0, E1, E2, E3] = E) := Lib.hid (by
    rw [← hE.out]
    refine fir_x fun h => ?_
    have h4 := (HFG.out h).1.2.2.2.1
    have h5 := (HFG.out h).1.2.2.2.2.2.2.2.2.2
    rw [← hE2x.out, ← hE3x.out, h4, h5])
  have hne9 := ZB.out.lt
  go_upto_region 2 with (fail)
  refine wp_worldE (fun u => Below x1.heap.size x1 u ∧ BlkF u w.heap.size (x1.heap.size) [.string a0, .int .i64 a1, .slice a2 n2 c2, .slice a3 n3 c3, .slice a4 n4 c4, .int .i64 a5]) ⟨(Below.refl _ _).alloc (by first | exact Nat.le_refl _ | (simp; done) | (simp; omega)) _, BlkF.made (B := w.heap.size) x1 [.string a0, .int .i64 a1, .slice a2 n2 c2, .slice a3 n3 c3, .slice a4 n4 c4, .int .i64 a5] 70 (by first | exact Nat.le_refl _ | exact hB1.size | (simp; done) | (simp; omega))⟩ (fun x2 hu2 => ?_)
  obtain ⟨hc2, qFB⟩ := hu2
  have FB := Lib.hid qFB
  clear qFB
  have hB2 : Below w.heap.size w x2 := hB1.trans (hc2.mono hB1.size)
  have zu2 := hB2.size
  replace HFG := Lib.hid (HFG.out.below hc2)
  replace ZX := Lib.hid (ZX.out.below hc2)
  replace PB := Lib.hid (PB.out.below hc2)
  replace RB := Lib.hid (RB.out.below hc2)
  replace ZB := Lib.hid (ZB.out.below hc2)
  clear PB_1_0 PB_1_1 PB_1_2 PB_1_3 lPB_1 nPB_1 mPB_1 RB_1_0 RB_1_1 RB_1_2 RB_1_3 RB_1_4 RB_1_5 RB_1_6 RB_1_7 RB_1_8 lRB_1 nRB_1 mRB_1 ZB_1_0 ZB_1_1 ZB_1_2 ZB_1_3 ZB_1_4 ZB_1_5 lZB_1 nZB_1 mZB_1
  clear hB1 zu1 hc1
  obtain ⟨PB_2_0, PB_2_1, PB_2_2, PB_2_3⟩ := b4 PB.out
  have lPB_2 := PB.out.lt
  have nPB_2 : x2.heap.size ≠ w.heap.size := by omega
  have mPB_2 : w.heap.size ≠ x2.heap.size := by omega
  obtain ⟨RB_2_0, RB_2_1, RB_2_2, RB_2_3, RB_2_4, RB_2_5, RB_2_6, RB_2_7, RB_2_8⟩ := b9 RB.out
  have lRB_2 := RB.out.lt
  have nRB_2 : x2.heap.size ≠ w.heap.size + 1 := by omega
  have mRB_2 : w.heap.size + 1 ≠ x2.heap.size := by omega
  obtain ⟨ZB_2_0, ZB_2_1, ZB_2_2, ZB_2_3, ZB_2_4, ZB_2_5⟩ := b6 ZB.out
  have lZB_2 := ZB.out.lt
  have nZB_2 : x2.heap.size ≠ w.heap.size + 1 + 1 := by omega
  have mZB_2 : w.heap.size + 1 + 1 ≠ x2.heap.size := by omega
  obtain ⟨FB_2_0, FB_2_1, FB_2_2, FB_2_3, FB_2_4, FB_2_5⟩ := b6 FB.out
  have lFB_2 := FB.out.lt
  have nFB_2 : x2.heap.size ≠ x1.heap.size := by omega
  have mFB_2 : x1.heap.size ≠ x2.heap.size := by omega
  obtain ⟨rb, hrb⟩ : ∃ z, w.heap.size + 1 + 1 = z := ⟨_, rfl⟩
  rw [hrb] at ZB hne9 ZX
  try rw [hrb]
  have HNrb := ZB
  have hrl := ZB.out.lt
  have hge : w.heap.size ≤ rb := by omega
  have hrp : rb ≠ w.heap.size := by omega
  have hrq : rb ≠ w.heap.size + 1 := by omega
  have hne4 := Lib.hid (fun (e : E0 = 0) => pt_ne_box (HFG.out e).2 (by rw [ptL_len]; omega) ZX.out)
  clear hrb ZX
  have HTU : Hid (∀ y, Below x2.heap.size x2 y → SlRows oxV 2 y AT T) := Lib.hid fun y hy => hT.out.below (hB2.trans (hy.mono hB2.size))
  have HCU : Hid (∀ y, Below x2.heap.size x2 y → SlRows inV 1 y C L) := Lib.hid fun y hy => hC.out.below (hB2.trans (hy.mono hB2.size))
  have HS : Hid (∀ y, Below x2.heap.size x2 y → y.cell? ⟨x1.heap.size, 0, none⟩ = some (.string a0) ∧ y.cell? ⟨x1.heap.size, 1, none⟩ = some (.int .i64 a1) ∧ y.cell? ⟨x1.heap.size, 2, none⟩ = some (.slice a2 n2 c2) ∧ y.cell? ⟨x1.heap.size, 3, none⟩ = some (.slice a3 n3 c3) ∧ y.cell? ⟨x1.heap.size, 4, none⟩ = some (.slice a4 n4 c4) ∧ y.cell? ⟨x1.heap.size, 5, none⟩ = some (.int .i64 a5) ∧ y.cell? ⟨w.heap.size + 1, 0, none⟩ = some (.slice AT tn tc) ∧ y.cell? ⟨w.heap.size + 1, 1, none⟩ = some (.int .i64 r.a) ∧ y.cell? ⟨w.heap.size + 1, 2, none⟩ = some (.int .i64 r.b) ∧ y.cell? ⟨w.heap.size + 1, 3, none⟩ = some (.int .i64 r.nc) ∧ y.cell? ⟨w.heap.size + 1, 4, none⟩ = some (.int .i64 r.dn) ∧ y.cell? ⟨w.heap.size + 1, 5, none⟩ = some (.int .i64 r.br) ∧ y.cell? ⟨w.heap.size + 1, 6, none⟩ = some (.int .i64 r.em) ∧ y.cell? ⟨w.heap.size + 1, 7, none⟩ = some (.int .i64 r.pa) ∧ y.cell? ⟨w.heap.size + 1, 8, none⟩ = some (.int .i64 r.sc)) := Lib.hid fun y hy => ⟨(hy.cell (p := ⟨x1.heap.size, 0, none⟩) lFB_2).trans FB_2_0, (hy.cell (p := ⟨x1.heap.size, 1, none⟩) lFB_2).trans FB_2_1, (hy.cell (p := ⟨x1.heap.size, 2, none⟩) lFB_2).trans FB_2_2, (hy.cell (p := ⟨x1.heap.size, 3, none⟩) lFB_2).trans FB_2_3, (hy.cell (p := ⟨x1.heap.size, 4, none⟩) lFB_2).trans FB_2_4, (hy.cell (p := ⟨x1.heap.size, 5, none⟩) lFB_2).trans FB_2_5, (hy.cell (p := ⟨w.heap.size + 1, 0, none⟩) lRB_2).trans RB_2_0, (hy.cell (p := ⟨w.heap.size + 1, 1, none⟩) lRB_2).trans RB_2_1, (hy.cell (p := ⟨w.heap.size + 1, 2, none⟩) lRB_2).trans RB_2_2, (hy.cell (p := ⟨w.heap.size + 1, 3, none⟩) lRB_2).trans RB_2_3, (hy.cell (p := ⟨w.heap.size + 1, 4, none⟩) lRB_2).trans RB_2_4, (hy.cell (p := ⟨w.heap.size + 1, 5, none⟩) lRB_2).trans RB_2_5, (hy.cell (p := ⟨w.heap.size + 1, 6, none⟩) lRB_2).trans RB_2_6, (hy.cell (p := ⟨w.heap.size + 1, 7, none⟩) lRB_2).trans RB_2_7, (hy.cell (p := ⟨w.heap.size + 1, 8, none⟩) lRB_2).trans RB_2_8⟩
  refine wp_region_held_drew (S := (fun w' => w'.cell? ⟨x1.heap.size, 0, none⟩ = some (.string a0) ∧ w'.cell? ⟨x1.heap.size, 1, none⟩ = some (.int .i64 a1) ∧ w'.cell? ⟨x1.heap.size, 2, none⟩ = some (.slice a2 n2 c2) ∧ w'.cell? ⟨x1.heap.size, 3, none⟩ = some (.slice a3 n3 c3) ∧ w'.cell? ⟨x1.heap.size, 4, none⟩ = some (.slice a4 n4 c4) ∧ w'.cell? ⟨x1.heap.size, 5, none⟩ = some (.int .i64 a5) ∧ w'.cell? ⟨w.heap.size + 1, 0, none⟩ = some (.slice AT tn tc) ∧ w'.cell? ⟨w.heap.size + 1, 1, none⟩ = some (.int .i64 r.a) ∧ w'.cell? ⟨w.heap.size + 1, 2, none⟩ = some (.int .i64 r.b) ∧ w'.cell? ⟨w.heap.size + 1, 3, none⟩ = some (.int .i64 r.nc) ∧ w'.cell? ⟨w.heap.size + 1, 4, none⟩ = some (.int .i64 r.dn) ∧ w'.cell? ⟨w.heap.size + 1, 5, none⟩ = some (.int .i64 r.br) ∧ w'.cell? ⟨w.heap.size + 1, 6, none⟩ = some (.int .i64 r.em) ∧ w'.cell? ⟨w.heap.size + 1, 7, none⟩ = some (.int .i64 r.pa) ∧ w'.cell? ⟨w.heap.size + 1, 8, none⟩ = some (.int .i64 r.sc))) (by kernel_rfl) (HS.out _ (Below.refl _ _).drew) (fun hHeld => ?_)
  have hT0 : Below x2.heap.size x2 x2.drew := (Below.refl _ _).drew
  replace HNrb := Lib.hid (HNrb.out.below (Below.refl x2.heap.size x2).drew)
  replace HFG := Lib.hid (HFG.out.below (Below.refl x2.heap.size x2).drew)
  generalize hdr : x2.drew = y0 at *
  clear hdr
  refine tkH 0 ⟨some 15, _, _, _, _, _⟩ ?_ rfl ?_ (by assumption) ?_
  rotate_left
  · (intro w hSw; (try dsimp only at hSw); go_simp; all_goals with_reducible rfl)
  try simp only [Act.put, sA, sB, sC]
  refine tkH 1 ⟨some 16, _, _, _, _, _⟩ ?_ rfl ?_ (by assumption) ?_
  rotate_left
  · (intro w hSw; (try dsimp only at hSw); go_simp; all_goals with_reducible rfl)
  try simp only [Act.put, sA, sB, sC]
  refine tkH 2 ⟨some 17, _, _, _, _, _⟩ ?_ rfl ?_ (by assumption) ?_
  rotate_left
  · (intro w hSw; (try dsimp only at hSw); go_simp; all_goals with_reducible rfl)
  try simp only [Act.put, sA, sB, sC]
  refine tkH 4 ⟨some 19, _, _, _, _, _⟩ ?_ rfl ?_ (by assumption) ?_
  rotate_left
  · (intro w hSw; (try dsimp only at hSw); go_simp; all_goals with_reducible rfl)
  try simp only [Act.put, sA, sB, sC]
  refine tkH 5 ⟨some 20, _, _, _, _, _⟩ ?_ rfl ?_ (by assumption) ?_
  rotate_left
  · (intro w hSw; (try dsimp only at hSw); go_simp; all_goals with_reducible rfl)
  try simp only [Act.put, sA, sB, sC]
  refine tkH 7 ⟨some 22, _, _, _, _, _⟩ ?_ rfl ?_ (by assumption) ?_
  rotate_left
  · (intro w hSw; (try dsimp only at hSw); go_simp; all_goals with_reducible rfl)
  try simp only [Act.put, sA, sB, sC]
  refine wpAnyH_ready (rs := [3]) (by kernel_rfl) (by simp) ?_
  refine AllReadyH.cons rfl (fun K hK => ?_) (AllReadyH.nil)
  go_simp
  refine (CheckRules_any T r AT tn tc E1 _ htn htl (HTU.out _ hT0) hE1).mono ?_
  rintro e y1 ⟨rfl, hby0⟩
  have hT1 : Below x2.heap.size x2 y1 := hT0.trans (hby0.mono hT0.size)
  replace HNrb := Lib.hid (HNrb.out.below hby0)
  replace HFG := Lib.hid (HFG.out.below hby0)
  clear hby0
  go_wp2_with fail
  refine hK.out _ _ (HS.out _ hT1) (fun hHeld => ?_)
  clear hK K
  try simp only [Act.put, sA, sB, sC]
  refine wpAnyH_ready (rs := [6]) (by kernel_rfl) (by simp) ?_
  refine AllReadyH.cons rfl (fun K hK => ?_) (AllReadyH.nil)
  go_simp
  refine (checkAmt_x a0 a1 a2 n2 c2 a3 n3 c3 a4 n4 c4 a5 L C an cc E2 _ han hal (Lib.hid (HCU.out _ hT1)) hE2x).mono ?_
  rintro e y2 ⟨rfl, hby1⟩
  have hT2 : Below x2.heap.size x2 y2 := hT1.trans (hby1.mono hT1.size)
  replace HNrb := Lib.hid (HNrb.out.below hby1)
  replace HFG := Lib.hid (HFG.out.below hby1)
  clear hby1
  go_wp2_with fail
  refine hK.out _ _ (HS.out _ hT2) (fun hHeld => ?_)
  clear hK K
  try simp only [Act.put, sA, sB, sC]
  refine wpAnyH_ready (rs := [8]) (by kernel_rfl) (by simp) ?_
  refine AllReadyH.cons rfl (fun K hK => ?_) (AllReadyH.nil)
  go_simp
  refine (checkTrace_x a0 a1 a2 n2 c2 a3 n3 c3 a4 n4 c4 a5 E3 _ hE3x).mono ?_
  rintro e y3 ⟨rfl, hby2⟩
  have hT3 : Below x2.heap.size x2 y3 := hT2.trans (hby2.mono hT2.size)
  replace HNrb := Lib.hid (HNrb.out.below hby2)
  replace HFG := Lib.hid (HFG.out.below hby2)
  clear hby2
  go_wp2_with fail
  refine hK.out _ _ (HS.out _ hT3) (fun hHeld => ?_)
  clear hK K
  try simp only [Act.put, sA, sB, sC]
  refine wpAnyH_ready (rs := [9]) (by kernel_rfl) (by simp) ?_
  refine AllReadyH.cons rfl (fun K hK => ?_) (AllReadyH.nil)
  go_simp
  go_wp2_with fail
  refine hK.out _ _ (HS.out _ (hT3.alloc hT3.size _)) (fun hHeld => ?_)
  clear hK K
  try simp only [Act.put, sA, sB, sC]
  have HNbz := Lib.hid (BlkF.made (B := x2.heap.size) y3 [.int .i64 E0, .int .i64 E1, .int .i64 E2, .int .i64 E3] 35 hT3.size)
  have hby3 : Below y3.heap.size y3 (y3.alloc (.cells #[.int .i64 E0, .int .i64 E1, .int .i64 E2, .int .i64 E3] 35)) := (Below.refl _ _).alloc (Nat.le_refl _) _
  replace HNrb := Lib.hid (HNrb.out.below hby3)
  replace HFG := Lib.hid (HFG.out.below hby3)
  have hnbz : x2.heap.size ≤ y3.heap.size := hT3.size
  have exbz : ∃ x, y3.heap.size = x := ⟨_, rfl⟩
  generalize hq3 : y3.alloc (.cells #[.int .i64 E0, .int .i64 E1, .int .i64 E2, .int .i64 E3] 35) = y4 at *
  have hT4 : Below x2.heap.size x2 y4 := hT3.trans (hby3.mono hT3.size)
  obtain ⟨bz, ebz⟩ := exbz
  rw [ebz] at HNbz hnbz ⊢
  clear hby3 hq3
  refine wpAnyH_ready (rs := [10]) (by kernel_rfl) (by simp) ?_
  refine AllReadyH.cons rfl (fun K hK => ?_) (AllReadyH.nil)
  go_simp
  refine (cFirst4X E0 E1 E2 E3 E bz _ hEX HNbz.out).mono ?_
  rintro e y5 ⟨rfl, hby4⟩
  have hT5 : Below x2.heap.size x2 y5 := hT4.trans (hby4.mono hT4.size)
  replace HNrb := Lib.hid (HNrb.out.below hby4)
  replace HFG := Lib.hid (HFG.out.below hby4)
  replace HNbz := Lib.hid (HNbz.out.below hby4)
  clear hby4
  go_wp2_with fail
  refine hK.out _ _ (HS.out _ hT5) (fun hHeld => ?_)
  clear hK K
  try simp only [Act.put, sA, sB, sC]
  refine wpAnyH_ready (rs := [11]) (by kernel_rfl) (by simp) ?_
  refine AllReadyH.cons rfl (fun K hK => ?_) (AllReadyH.nil)
  have HBs := Lib.hid (BlkF.st (vs' := [.string a0, .int .i64 a1, .slice a2 n2 c2, .slice a3 n3 c3, .slice a4 n4 c4, .int .i64 a5]) HNrb.out rfl)
  have hTs := Lib.hid (stW_below (N := w.heap.size) (w := w) HNrb.out.ge [.string a0, .int .i64 a1, .slice a2 n2 c2, .slice a3 n3 c3, .slice a4 n4 c4, .int .i64 a5] y5 0 (hB2.trans (hT5.mono hB2.size)))
  have EHFG := Lib.hid (HFG.out.other (c := rb) (i := 0) (l := [.string a0, .int .i64 a1, .slice a2 n2 c2, .slice a3 n3 c3, .slice a4 n4 c4, .int .i64 a5]) hne4.out)
  have hSs : ((((((y5.setCell ⟨rb, 0, none⟩ (.string a0)).setCell ⟨rb, 1, none⟩ (.int .i64 a1)).setCell ⟨rb, 2, none⟩ (.slice a2 n2 c2)).setCell ⟨rb, 3, none⟩ (.slice a3 n3 c3)).setCell ⟨rb, 4, none⟩ (.slice a4 n4 c4)).setCell ⟨rb, 5, none⟩ (.int .i64 a5)).cell? ⟨x1.heap.size, 0, none⟩ = some (.string a0) ∧ ((((((y5.setCell ⟨rb, 0, none⟩ (.string a0)).setCell ⟨rb, 1, none⟩ (.int .i64 a1)).setCell ⟨rb, 2, none⟩ (.slice a2 n2 c2)).setCell ⟨rb, 3, none⟩ (.slice a3 n3 c3)).setCell ⟨rb, 4, none⟩ (.slice a4 n4 c4)).setCell ⟨rb, 5, none⟩ (.int .i64 a5)).cell? ⟨x1.heap.size, 1, none⟩ = some (.int .i64 a1) ∧ ((((((y5.setCell ⟨rb, 0, none⟩ (.string a0)).setCell ⟨rb, 1, none⟩ (.int .i64 a1)).setCell ⟨rb, 2, none⟩ (.slice a2 n2 c2)).setCell ⟨rb, 3, none⟩ (.slice a3 n3 c3)).setCell ⟨rb, 4, none⟩ (.slice a4 n4 c4)).setCell ⟨rb, 5, none⟩ (.int .i64 a5)).cell? ⟨x1.heap.size, 2, none⟩ = some (.slice a2 n2 c2) ∧ ((((((y5.setCell ⟨rb, 0, none⟩ (.string a0)).setCell ⟨rb, 1, none⟩ (.int .i64 a1)).setCell ⟨rb, 2, none⟩ (.slice a2 n2 c2)).setCell ⟨rb, 3, none⟩ (.slice a3 n3 c3)).setCell ⟨rb, 4, none⟩ (.slice a4 n4 c4)).setCell ⟨rb, 5, none⟩ (.int .i64 a5)).cell? ⟨x1.heap.size, 3, none⟩ = some (.slice a3 n3 c3) ∧ ((((((y5.setCell ⟨rb, 0, none⟩ (.string a0)).setCell ⟨rb, 1, none⟩ (.int .i64 a1)).setCell ⟨rb, 2, none⟩ (.slice a2 n2 c2)).setCell ⟨rb, 3, none⟩ (.slice a3 n3 c3)).setCell ⟨rb, 4, none⟩ (.slice a4 n4 c4)).setCell ⟨rb, 5, none⟩ (.int .i64 a5)).cell? ⟨x1.heap.size, 4, none⟩ = some (.slice a4 n4 c4) ∧ ((((((y5.setCell ⟨rb, 0, none⟩ (.string a0)).setCell ⟨rb, 1, none⟩ (.int .i64 a1)).setCell ⟨rb, 2, none⟩ (.slice a2 n2 c2)).setCell ⟨rb, 3, none⟩ (.slice a3 n3 c3)).setCell ⟨rb, 4, none⟩ (.slice a4 n4 c4)).setCell ⟨rb, 5, none⟩ (.int .i64 a5)).cell? ⟨x1.heap.size, 5, none⟩ = some (.int .i64 a5) ∧ ((((((y5.setCell ⟨rb, 0, none⟩ (.string a0)).setCell ⟨rb, 1, none⟩ (.int .i64 a1)).setCell ⟨rb, 2, none⟩ (.slice a2 n2 c2)).setCell ⟨rb, 3, none⟩ (.slice a3 n3 c3)).setCell ⟨rb, 4, none⟩ (.slice a4 n4 c4)).setCell ⟨rb, 5, none⟩ (.int .i64 a5)).cell? ⟨w.heap.size + 1, 0, none⟩ = some (.slice AT tn tc) ∧ ((((((y5.setCell ⟨rb, 0, none⟩ (.string a0)).setCell ⟨rb, 1, none⟩ (.int .i64 a1)).setCell ⟨rb, 2, none⟩ (.slice a2 n2 c2)).setCell ⟨rb, 3, none⟩ (.slice a3 n3 c3)).setCell ⟨rb, 4, none⟩ (.slice a4 n4 c4)).setCell ⟨rb, 5, none⟩ (.int .i64 a5)).cell? ⟨w.heap.size + 1, 1, none⟩ = some (.int .i64 r.a) ∧ ((((((y5.setCell ⟨rb, 0, none⟩ (.string a0)).setCell ⟨rb, 1, none⟩ (.int .i64 a1)).setCell ⟨rb, 2, none⟩ (.slice a2 n2 c2)).setCell ⟨rb, 3, none⟩ (.slice a3 n3 c3)).setCell ⟨rb, 4, none⟩ (.slice a4 n4 c4)).setCell ⟨rb, 5, none⟩ (.int .i64 a5)).cell? ⟨w.heap.size + 1, 2, none⟩ = some (.int .i64 r.b) ∧ ((((((y5.setCell ⟨rb, 0, none⟩ (.string a0)).setCell ⟨rb, 1, none⟩ (.int .i64 a1)).setCell ⟨rb, 2, none⟩ (.slice a2 n2 c2)).setCell ⟨rb, 3, none⟩ (.slice a3 n3 c3)).setCell ⟨rb, 4, none⟩ (.slice a4 n4 c4)).setCell ⟨rb, 5, none⟩ (.int .i64 a5)).cell? ⟨w.heap.size + 1, 3, none⟩ = some (.int .i64 r.nc) ∧ ((((((y5.setCell ⟨rb, 0, none⟩ (.string a0)).setCell ⟨rb, 1, none⟩ (.int .i64 a1)).setCell ⟨rb, 2, none⟩ (.slice a2 n2 c2)).setCell ⟨rb, 3, none⟩ (.slice a3 n3 c3)).setCell ⟨rb, 4, none⟩ (.slice a4 n4 c4)).setCell ⟨rb, 5, none⟩ (.int .i64 a5)).cell? ⟨w.heap.size + 1, 4, none⟩ = some (.int .i64 r.dn) ∧ ((((((y5.setCell ⟨rb, 0, none⟩ (.string a0)).setCell ⟨rb, 1, none⟩ (.int .i64 a1)).setCell ⟨rb, 2, none⟩ (.slice a2 n2 c2)).setCell ⟨rb, 3, none⟩ (.slice a3 n3 c3)).setCell ⟨rb, 4, none⟩ (.slice a4 n4 c4)).setCell ⟨rb, 5, none⟩ (.int .i64 a5)).cell? ⟨w.heap.size + 1, 5, none⟩ = some (.int .i64 r.br) ∧ ((((((y5.setCell ⟨rb, 0, none⟩ (.string a0)).setCell ⟨rb, 1, none⟩ (.int .i64 a1)).setCell ⟨rb, 2, none⟩ (.slice a2 n2 c2)).setCell ⟨rb, 3, none⟩ (.slice a3 n3 c3)).setCell ⟨rb, 4, none⟩ (.slice a4 n4 c4)).setCell ⟨rb, 5, none⟩ (.int .i64 a5)).cell? ⟨w.heap.size + 1, 6, none⟩ = some (.int .i64 r.em) ∧ ((((((y5.setCell ⟨rb, 0, none⟩ (.string a0)).setCell ⟨rb, 1, none⟩ (.int .i64 a1)).setCell ⟨rb, 2, none⟩ (.slice a2 n2 c2)).setCell ⟨rb, 3, none⟩ (.slice a3 n3 c3)).setCell ⟨rb, 4, none⟩ (.slice a4 n4 c4)).setCell ⟨rb, 5, none⟩ (.int .i64 a5)).cell? ⟨w.heap.size + 1, 7, none⟩ = some (.int .i64 r.pa) ∧ ((((((y5.setCell ⟨rb, 0, none⟩ (.string a0)).setCell ⟨rb, 1, none⟩ (.int .i64 a1)).setCell ⟨rb, 2, none⟩ (.slice a2 n2 c2)).setCell ⟨rb, 3, none⟩ (.slice a3 n3 c3)).setCell ⟨rb, 4, none⟩ (.slice a4 n4 c4)).setCell ⟨rb, 5, none⟩ (.int .i64 a5)).cell? ⟨w.heap.size + 1, 8, none⟩ = some (.int .i64 r.sc) := by
    obtain ⟨h0, h1, h2, h3, h4, h5, h6, h7, h8, h9, h10, h11, h12, h13, h14⟩ := hHeld
    exact ⟨(stW_oc (l := [.string a0, .int .i64 a1, .slice a2 n2 c2, .slice a3 n3 c3, .slice a4 n4 c4, .int .i64 a5]) (i := 0) (show x1.heap.size ≠ rb by omega) (0)).trans h0, (stW_oc (l := [.string a0, .int .i64 a1, .slice a2 n2 c2, .slice a3 n3 c3, .slice a4 n4 c4, .int .i64 a5]) (i := 0) (show x1.heap.size ≠ rb by omega) (1)).trans h1, (stW_oc (l := [.string a0, .int .i64 a1, .slice a2 n2 c2, .slice a3 n3 c3, .slice a4 n4 c4, .int .i64 a5]) (i := 0) (show x1.heap.size ≠ rb by omega) (2)).trans h2, (stW_oc (l := [.string a0, .int .i64 a1, .slice a2 n2 c2, .slice a3 n3 c3, .slice a4 n4 c4, .int .i64 a5]) (i := 0) (show x1.heap.size ≠ rb by omega) (3)).trans h3, (stW_oc (l := [.string a0, .int .i64 a1, .slice a2 n2 c2, .slice a3 n3 c3, .slice a4 n4 c4, .int .i64 a5]) (i := 0) (show x1.heap.size ≠ rb by omega) (4)).trans h4, (stW_oc (l := [.string a0, .int .i64 a1, .slice a2 n2 c2, .slice a3 n3 c3, .slice a4 n4 c4, .int .i64 a5]) (i := 0) (show x1.heap.size ≠ rb by omega) (5)).trans h5, (stW_oc (l := [.string a0, .int .i64 a1, .slice a2 n2 c2, .slice a3 n3 c3, .slice a4 n4 c4, .int .i64 a5]) (i := 0) (show w.heap.size + 1 ≠ rb by omega) (0)).trans h6, (stW_oc (l := [.string a0, .int .i64 a1, .slice a2 n2 c2, .slice a3 n3 c3, .slice a4 n4 c4, .int .i64 a5]) (i := 0) (show w.heap.size + 1 ≠ rb by omega) (1)).trans h7, (stW_oc (l := [.string a0, .int .i64 a1, .slice a2 n2 c2, .slice a3 n3 c3, .slice a4 n4 c4, .int .i64 a5]) (i := 0) (show w.heap.size + 1 ≠ rb by omega) (2)).trans h8, (stW_oc (l := [.string a0, .int .i64 a1, .slice a2 n2 c2, .slice a3 n3 c3, .slice a4 n4 c4, .int .i64 a5]) (i := 0) (show w.heap.size + 1 ≠ rb by omega) (3)).trans h9, (stW_oc (l := [.string a0, .int .i64 a1, .slice a2 n2 c2, .slice a3 n3 c3, .slice a4 n4 c4, .int .i64 a5]) (i := 0) (show w.heap.size + 1 ≠ rb by omega) (4)).trans h10, (stW_oc (l := [.string a0, .int .i64 a1, .slice a2 n2 c2, .slice a3 n3 c3, .slice a4 n4 c4, .int .i64 a5]) (i := 0) (show w.heap.size + 1 ≠ rb by omega) (5)).trans h11, (stW_oc (l := [.string a0, .int .i64 a1, .slice a2 n2 c2, .slice a3 n3 c3, .slice a4 n4 c4, .int .i64 a5]) (i := 0) (show w.heap.size + 1 ≠ rb by omega) (6)).trans h12, (stW_oc (l := [.string a0, .int .i64 a1, .slice a2 n2 c2, .slice a3 n3 c3, .slice a4 n4 c4, .int .i64 a5]) (i := 0) (show w.heap.size + 1 ≠ rb by omega) (7)).trans h13, (stW_oc (l := [.string a0, .int .i64 a1, .slice a2 n2 c2, .slice a3 n3 c3, .slice a4 n4 c4, .int .i64 a5]) (i := 0) (show w.heap.size + 1 ≠ rb by omega) (8)).trans h14⟩
  obtain ⟨k0, k1, k2, k3, k4, k5⟩ := b6 HNrb.out
  have kf := HNrb.out.fz
  go_simp
  go_wp2_with fail
  refine hK.out _ _ hSs (fun hHeld => ?_)
  clear hK K kf hSs k0 k1 k2 k3 k4 k5
  try simp only [Act.put, sA, sB, sC]
  refine tkH 12 ⟨some 7, _, _, _, _, _⟩ ?_ rfl ?_ (by assumption) ?_
  rotate_left
  · (intro w hSw; (try dsimp only at hSw); go_simp; all_goals with_reducible rfl)
  try simp only [Act.put, sA, sB, sC]
  refine wpAnyH_done (by kernel_rfl) ?_ _
  refine ex_world (fun vz => BlkF vz w.heap.size rb [.string a0, .int .i64 a1, .slice a2 n2 c2, .slice a3 n3 c3, .slice a4 n4 c4, .int .i64 a5] ∧ Below w.heap.size w vz ∧ FolG nm s A gn gc B dn dc D E0 a0 a1 a2 n2 c2 a3 n3 c3 a4 n4 c4 a5 vz) ⟨HBs.out, hTs.out, EHFG.out⟩ (fun vz hvz => ?_)
  obtain ⟨HBz, hTz, ZHFG⟩ := hvz
  clear hHeld HS HBs hTs EHFG
  obtain ⟨r0, r1, r2, r3, r4, r5⟩ := b6 HBz
  have hTz2 := Lib.hid hTz
  have HZF := Lib.hid ZHFG
  clear HBz hTz ZHFG
  go_wp2
  refine bodyPost_ret (v := .tuple #[.agg #[.string a0, .int .i64 a1, .slice a2 n2 c2, .slice a3 n3 c3, .slice a4 n4 c4, .int .i64 a5], .int .i64 E]) (by simp [results, Tryz.results38, go_sem, *]) rfl ⟨a0, a1, a2, n2, c2, a3, n3, c3, a4, n4, c4, a5, rfl, hn3, hn2, HZF.out, hTz2.out⟩
set_option maxRecDepth 100000 in
set_option maxHeartbeats 8000000 in
theorem firstShort_is (nm : ByteArray) (s : Int) (G : List Ga) (D : List Le) (A B P : Option Addr) (gn gc dn dc pc : Nat) (T : List Ox) (r : Ru) (AT : Option Addr) (tn tc : Nat) (L : List Int) (C : Option Addr) (an cc : Nat) (kk NN : Nat) (gF : Nat → Nat) (vF sF : Nat → Int) (z : Int) (bz : Bool) (w : World) (hF : Hid (∀ i : Nat, gF i = ndG s G D (0 + (i : Int)) ∧ vF i = ndV r s G D (0 + (i : Int)) ∧ sF i = 0 + (i : Int))) (hgn : Hid (gn = G.length)) (hdn : Hid (dn = D.length)) (hok : Hid (PlnOk nm s G D)) (hru : Hid (RuOk T r)) (hG : Hid (SlRows gaV 2 w A G)) (hD : Hid (SlRows leV 3 w B D)) (hPx : Hid (SlRows ptV 2 w P (ptL D (dn + 1)))) (hS9 : Hid (secT D D.length ≤ 20000)) (han : Hid (an = L.length)) (hal : an ≤ 1000000) (hC : Hid (SlRows inV 1 w C L)) (hNN : Hid (ndN D 0 = NN)) (hgL : Hid (∀ i, i < NN → gF i < an)) (hk1 : kk ≤ NN) (hk2 : Hid (∀ j, j < kk → vF j ≤ L.getD (gF j) 0)) (hk3 : Hid (kk < NN → L.getD (gF kk) 0 < vF kk)) (hz9 : Hid ((if kk < NN then (kk : Int) else 0) = z)) (hbz : Hid (decide (kk < NN) = bz)) :
    Calls Tryz.prog 39 #[.agg #[.string nm, .int .i64 s, .slice A gn gc, .slice B dn dc, .slice P (dn + 1) pc, .int .i64 (secT D dn)], .agg #[.slice AT tn tc, .int .i64 r.a, .int .i64 r.b, .int .i64 r.nc, .int .i64 r.dn, .int .i64 r.br, .int .i64 r.em, .int .i64 r.pa, .int .i64 r.sc], .slice C an cc] w fun e w' => e = .returned (.tuple #[.int .i64 z, .bool bz]) ∧ Below w.heap.size w w' := by
  have htt0 : (0 : Int) ≤ 0 := Int.le_refl 0
  have ht9 : Hid ((0 : Int) ≤ secT D D.length) := Lib.hid (hok.out.sec _).1
  have hshort : Hid (∀ k, (legC s G D k).s ≤ 20000) := Lib.hid (fun k => leg_short hok.out hS9.out k)
  refine (callsIn_wide (n := 12)).1 ?_
  refine callsIn_of_wp_marks Tryz.func39 rfl trivial ?_ rfl
  simp only [Tryz.ntmps39, List.size_toArray, List.length_cons, List.length_nil, Nat.reduceAdd, Nat.reduceSub, Array.replicate_succ, Array.replicate_zero, List.push_toArray, List.append_toArray, List.nil_append, List.cons_append]
  gi_wp2_with fail
  have hb0 : Below w.heap.size w (((((w.alloc (.cells #[.string nm, .int .i64 s, .slice A gn gc, .slice B dn dc, .slice P (dn + 1) pc, .int .i64 (secT D dn)] 70)).alloc (.cells #[.slice AT tn tc, .int .i64 r.a, .int .i64 r.b, .int .i64 r.nc, .int .i64 r.dn, .int .i64 r.br, .int .i64 r.em, .int .i64 r.pa, .int .i64 r.sc] 30)).alloc (.cells #[.slice C an cc] 42)).alloc (.cells #[.int .i64 0] 3)).alloc (.cells #[.bool false] 4)) := (((((Below.refl _ _).alloc (Nat.le_refl _) _).alloc (by simp <;> omega) _).alloc (by simp <;> omega) _).alloc (by simp <;> omega) _).alloc (by simp <;> omega) _
  have Za := (BlkF.made (B := w.heap.size) ((w.alloc (.cells #[.string nm, .int .i64 s, .slice A gn gc, .slice B dn dc, .slice P (dn + 1) pc, .int .i64 (secT D dn)] 70)).alloc (.cells #[.slice AT tn tc, .int .i64 r.a, .int .i64 r.b, .int .i64 r.nc, .int .i64 r.dn, .int .i64 r.br, .int .i64 r.em, .int .i64 r.pa, .int .i64 r.sc] 30)) [.slice C an cc] 42 (by simp <;> omega)).below (((Below.refl _ _).alloc (Nat.le_refl _) _).alloc (by simp <;> omega) _ : Below (((w.alloc (.cells #[.string nm, .int .i64 s, .slice A gn gc, .slice B dn dc, .slice P (dn + 1) pc, .int .i64 (secT D dn)] 70)).alloc (.cells #[.slice AT tn tc, .int .i64 r.a, .int .i64 r.b, .int .i64 r.nc, .int .i64 r.dn, .int .i64 r.br, .int .i64 r.em, .int .i64 r.pa, .int .i64 r.sc] 30)).alloc (.cells #[.slice C an cc] 42)).heap.size (((w.alloc (.cells #[.string nm, .int .i64 s, .slice A gn gc, .slice B dn dc, .slice P (dn + 1) pc, .int .i64 (secT D dn)] 70)).alloc (.cells #[.slice AT tn tc, .int .i64 r.a, .int .i64 r.b, .int .i64 r.nc, .int .i64 r.dn, .int .i64 r.br, .int .i64 r.em, .int .i64 r.pa, .int .i64 r.sc] 30)).alloc (.cells #[.slice C an cc] 42)) (((((w.alloc (.cells #[.string nm, .int .i64 s, .slice A gn gc, .slice B dn dc, .slice P (dn + 1) pc, .int .i64 (secT D dn)] 70)).alloc (.cells #[.slice AT tn tc, .int .i64 r.a, .int .i64 r.b, .int .i64 r.nc, .int .i64 r.dn, .int .i64 r.br, .int .i64 r.em, .int .i64 r.pa, .int .i64 r.sc] 30)).alloc (.cells #[.slice C an cc] 42)).alloc (.cells #[.int .i64 0] 3)).alloc (.cells #[.bool false] 4)))
  have Zn := (BlkF.made (B := w.heap.size) (((w.alloc (.cells #[.string nm, .int .i64 s, .slice A gn gc, .slice B dn dc, .slice P (dn + 1) pc, .int .i64 (secT D dn)] 70)).alloc (.cells #[.slice AT tn tc, .int .i64 r.a, .int .i64 r.b, .int .i64 r.nc, .int .i64 r.dn, .int .i64 r.br, .int .i64 r.em, .int .i64 r.pa, .int .i64 r.sc] 30)).alloc (.cells #[.slice C an cc] 42)) [.int .i64 0] 3 (by simp <;> omega)).below ((Below.refl _ _).alloc (Nat.le_refl _) _ : Below ((((w.alloc (.cells #[.string nm, .int .i64 s, .slice A gn gc, .slice B dn dc, .slice P (dn + 1) pc, .int .i64 (secT D dn)] 70)).alloc (.cells #[.slice AT tn tc, .int .i64 r.a, .int .i64 r.b, .int .i64 r.nc, .int .i64 r.dn, .int .i64 r.br, .int .i64 r.em, .int .i64 r.pa, .int .i64 r.sc] 30)).alloc (.cells #[.slice C an cc] 42)).alloc (.cells #[.int .i64 0] 3)).heap.size ((((w.alloc (.cells #[.string nm, .int .i64 s, .slice A gn gc, .slice B dn dc, .slice P (dn + 1) pc, .int .i64 (secT D dn)] 70)).alloc (.cells #[.slice AT tn tc, .int .i64 r.a, .int .i64 r.b, .int .i64 r.nc, .int .i64 r.dn, .int .i64 r.br, .int .i64 r.em, .int .i64 r.pa, .int .i64 r.sc] 30)).alloc (.cells #[.slice C an cc] 42)).alloc (.cells #[.int .i64 0] 3)) (((((w.alloc (.cells #[.string nm, .int .i64 s, .slice A gn gc, .slice B dn dc, .slice P (dn + 1) pc, .int .i64 (secT D dn)] 70)).alloc (.cells #[.slice AT tn tc, .int .i64 r.a, .int .i64 r.b, .int .i64 r.nc, .int .i64 r.dn, .int .i64 r.br, .int .i64 r.em, .int .i64 r.pa, .int .i64 r.sc] 30)).alloc (.cells #[.slice C an cc] 42)).alloc (.cells #[.int .i64 0] 3)).alloc (.cells #[.bool false] 4)))
  have Zm := (BlkF.made (B := w.heap.size) ((((w.alloc (.cells #[.string nm, .int .i64 s, .slice A gn gc, .slice B dn dc, .slice P (dn + 1) pc, .int .i64 (secT D dn)] 70)).alloc (.cells #[.slice AT tn tc, .int .i64 r.a, .int .i64 r.b, .int .i64 r.nc, .int .i64 r.dn, .int .i64 r.br, .int .i64 r.em, .int .i64 r.pa, .int .i64 r.sc] 30)).alloc (.cells #[.slice C an cc] 42)).alloc (.cells #[.int .i64 0] 3)) [.bool false] 4 (by simp <;> omega))
  simp only [World.size_alloc] at Za Zn Zm
  refine ⟨trivial, callsIn_world (fun X => Below w.heap.size w X ∧ BlkF X w.heap.size (w.heap.size + 1 + 1) [.slice C an cc] ∧ BlkF X w.heap.size (w.heap.size + 1 + 1 + 1) [.int .i64 0] ∧ BlkF X w.heap.size (w.heap.size + 1 + 1 + 1 + 1) [.bool false]) ⟨hb0, Za, Zn, Zm⟩ (fun x0 hx0 => ?_)⟩
  clear Za Zn Zm hb0
  obtain ⟨hb0, Za, Zn, Zm⟩ := hx0
  obtain ⟨ab, hab⟩ : ∃ z, w.heap.size + 1 + 1 = z := ⟨_, rfl⟩
  obtain ⟨nb, hnb⟩ : ∃ z, ab + 1 = z := ⟨_, rfl⟩
  obtain ⟨mb, hmb⟩ : ∃ z, nb + 1 = z := ⟨_, rfl⟩
  rw [hab] at Za Zn Zm ⊢
  rw [hnb] at Zn Zm ⊢
  rw [hmb] at Zm ⊢
  have dnm : nb ≠ mb := by omega
  have dmn : mb ≠ nb := by omega
  refine (callsIn_wide.2 (needs_is nm s A B P gn gc dn dc pc (secT D dn) r AT tn tc 0 x0)).mono ?_
  rintro e W0 ⟨rfl, hW0⟩
  have hc0 : Below x0.heap.size x0 W0 := by rw [← hW0]; exact (((Below.refl _ _).alloc (Nat.le_refl _) _).alloc (by simp) _).alloc (by simp <;> omega) _
  have ZF : BlkF W0 0 x0.heap.size [.string nm, .int .i64 s, .slice A gn gc, .slice B dn dc, .slice P (dn + 1) pc, .int .i64 (secT D dn)] := by rw [← hW0]; exact (BlkF.made (B := 0) x0 [.string nm, .int .i64 s, .slice A gn gc, .slice B dn dc, .slice P (dn + 1) pc, .int .i64 (secT D dn)] 70 (Nat.zero_le _)).below (((Below.refl _ _).alloc (Nat.le_refl _) _).alloc (by simp) _)
  have ZR : BlkF W0 0 (x0.heap.size + 1) [.slice AT tn tc, .int .i64 r.a, .int .i64 r.b, .int .i64 r.nc, .int .i64 r.dn, .int .i64 r.br, .int .i64 r.em, .int .i64 r.pa, .int .i64 r.sc] := by
    rw [← hW0]
    have h := (BlkF.made (B := 0) (x0.alloc (.cells #[.string nm, .int .i64 s, .slice A gn gc, .slice B dn dc, .slice P (dn + 1) pc, .int .i64 (secT D dn)] 70)) [.slice AT tn tc, .int .i64 r.a, .int .i64 r.b, .int .i64 r.nc, .int .i64 r.dn, .int .i64 r.br, .int .i64 r.em, .int .i64 r.pa, .int .i64 r.sc] 30 (Nat.zero_le _)).below ((Below.refl _ _).alloc (Nat.le_refl _) (.cells #[.int .i64 0] 3))
    simpa using h
  have ZS : BlkF W0 0 (x0.heap.size + 1 + 1) [.int .i64 0] := by
    rw [← hW0]
    have h := BlkF.made (B := 0) ((x0.alloc (.cells #[.string nm, .int .i64 s, .slice A gn gc, .slice B dn dc, .slice P (dn + 1) pc, .int .i64 (secT D dn)] 70)).alloc (.cells #[.slice AT tn tc, .int .i64 r.a, .int .i64 r.b, .int .i64 r.nc, .int .i64 r.dn, .int .i64 r.br, .int .i64 r.em, .int .i64 r.pa, .int .i64 r.sc] 30)) [.int .i64 0] 3 (Nat.zero_le _)
    simpa using h
  have hsz : W0.heap.size = x0.heap.size + 3 := by rw [← hW0]; simp
  clear hW0
  have hBW := hb0.trans (hc0.mono hb0.size)
  replace Za := Za.below hc0
  replace Zn := Zn.below hc0
  replace Zm := Zm.below hc0
  obtain ⟨bs, hbs0⟩ : ∃ bs, bs = x0.heap.size :: (bsO A G ++ bsO B D ++ bsO P (ptL D (dn + 1))) := ⟨_, rfl⟩
  have hM : FolM bs x0.heap.size nm s G D A B P gn gc dn dc pc (secT D dn) W0 := by
    obtain ⟨e0, e1, e2, e3, e4, e5⟩ := b6 ZF
    exact ⟨by rw [hbs0]; simp, ZF.lt, e0, e1, e2, e3, e4, e5, slk_of (hG.out.below hBW) (fun b hb => by rw [hbs0]; simp [hb]), slk_of (hD.out.below hBW) (fun b hb => by rw [hbs0]; simp [hb]), slk_of (hPx.out.below hBW) (fun b hb => by rw [hbs0]; simp [hb])⟩
  have hbs : ∀ b ∈ bs, b < W0.heap.size := by
    intro b hb
    rw [hbs0] at hb
    simp only [List.mem_cons, List.mem_append] at hb
    have hw := hBW.size
    rcases hb with rfl | (hb | hb) | hb
    · omega
    · have := bsO_lt hG.out b hb; omega
    · have := bsO_lt hD.out b hb; omega
    · have := bsO_lt hPx.out b hb; omega
  have hbsc : ∀ b ∈ bs, b ∉ ([] : List Nat) ∧ ∃ o, W0.heap[b]? = some o ∧ o.isCells = true := by
    intro b hb
    refine ⟨by simp, ?_⟩
    rw [hbs0] at hb
    simp only [List.mem_cons, List.mem_append] at hb
    rcases hb with rfl | (hb | hb) | hb
    · exact cells_of hM.c0
    · exact bsO_cells gaV_len (hG.out.below hBW) b hb
    · exact bsO_cells leV_len (hD.out.below hBW) b hb
    · exact bsO_cells ptV_len (hPx.out.below hBW) b hb
  obtain ⟨N, hN⟩ : ∃ N, W0.heap.size = N := ⟨_, rfl⟩
  have ln := Zn.lt
  have lm := Zm.lt
  have lla := Za.lt
  have hsN : x0.heap.size + 3 = N := by omega
  clear hsz
  have hsN2 := Lib.hid hsN
  clear hsN
  gi_wp2
  refine wpIn_rangeFunc_pos (Kt := KeepX []) (K2 := KeepX []) (by decide) (gf := 59) (lb := #[.pointer (some ⟨x0.heap.size + 1 + 1, 0, none⟩), .pointer (some ⟨x0.heap.size, 0, none⟩), .pointer (some ⟨x0.heap.size + 1, 0, none⟩)]) rfl (enters_of Tryz.func59 (by kernel_rfl) rfl)
    (needs_posF (12 - 1) (by decide) bs x0.heap.size (x0.heap.size + 1 + 1) (x0.heap.size + 1) nm s G D A B P gn gc dn dc pc (secT D dn) T r AT tn tc 0 [] W0 gF vF sF hF hgn hdn hok hru hshort hM hbs hbsc (fun b hb => absurd hb (by simp)) (by simp) ZS ZR htt0 ht9 hS9) KeepX.trans (fun W l o o' _ h hc _ => keepX_put W l o o' h hc) (Below.refl _ _) (fun _ => rfl)
    (fun k X => k ≤ kk ∧ (BlkF X w.heap.size nb [.int .i64 0] ∧ BlkF X w.heap.size mb [.bool false] ∧ BlkF X w.heap.size ab [.slice C an cc]) ∧ Below w.heap.size w X ∧ N ≤ X.heap.size)
    (fun c k X => (c = .ret ∧ k = kk ∧ BlkF X w.heap.size nb [.int .i64 (sF k)] ∧ BlkF X w.heap.size mb [.bool true]) ∧ Below w.heap.size w X)
    (fun k X Y row hs hg hr => ⟨hs.1, ⟨blk_own (β := Unit) (by simp) () X Y row hs.2.1.1 hg hr, blk_own (β := Unit) (by simp) () X Y row hs.2.1.2.1 hg hr, blk_own (β := Unit) (by simp) () X Y row hs.2.1.2.2 hg hr⟩, ownFrom_below (β := Unit) (Nat.le_refl _) (by have := hBW.size; omega) () X Y row hs.2.2.1 hg hr, Nat.le_trans hs.2.2.2 hg.size⟩)
    (fun c k X Y row hs hg hr => ⟨⟨hs.1.1, hs.1.2.1, blk_own (β := Unit) (by simp) () X Y row hs.1.2.2.1 hg hr, blk_own (β := Unit) (by simp) () X Y row hs.1.2.2.2 hg hr⟩, ownFrom_below (β := Unit) (Nat.le_refl _) (by have := hBW.size; omega) () X Y row hs.2 hg hr⟩)
    (fun k X Y hs hb => ⟨hs.1, ⟨hs.2.1.1.low hb ln, hs.2.1.2.1.low hb lm, hs.2.1.2.2.low hb lla⟩, hs.2.2.1.trans (hb.mono hBW.size), Nat.le_trans hs.2.2.2 hb.size⟩)
    (fun k X Y h _ => h)
    ⟨by omega, ⟨Zn, Zm, Za⟩, hBW, by omega⟩
    (fun k a' X => ∃ Bx t0 t1 t2 t3 t4 t10 t11 t12 t13 t14 t15 t16 t17 t18 t19 t20 t21 t22 t23, N ≤ Bx ∧ BlkF X N Bx [.int .i64 (vF k), .int .i64 (sF k)] ∧ a' = { tmps := #[t0, t1, t2, t3, t4, .pointer (some ⟨ab, 0, none⟩), .pointer (some ⟨nb, 0, none⟩), .pointer (some ⟨mb, 0, none⟩), .int .i64 (gF k : Int), .pointer (some ⟨Bx, 0, none⟩), t10, t11, t12, t13, t14, t15, t16, t17, t18, t19, t20, t21, t22, t23], defers := [] })
    (fun k a' _ X Y row hs hg hr => by obtain ⟨Bx, t0, t1, t2, t3, t4, t10, t11, t12, t13, t14, t15, t16, t17, t18, t19, t20, t21, t22, t23, h1, h2, h3⟩ := hs; exact ⟨Bx, t0, t1, t2, t3, t4, t10, t11, t12, t13, t14, t15, t16, t17, t18, t19, t20, t21, t22, t23, h1, blk_own (β := Unit) (by simp) () X Y row h2 hg hr, h3⟩)
    ?assign ?body ?done ?stop
  case assign =>
    rintro l2 k X K hk hi hK
    have hNX : N ≤ X.heap.size := hi.2.2.2
    gi_wp2
    have hb9 : Below X.heap.size X (X.alloc (.cells #[.int .i64 (vF k), .int .i64 (sF k)] 44)) := (Below.refl _ _).alloc (Nat.le_refl _) _
    refine hK _ _ (keepsFrom_below _ hb9) (keepX_of_below hb9) ?_ ⟨X.heap.size, _, _, _, _, _, _, _, _, _, _, _, _, _, _, _, _, _, _, _, hNX, BlkF.made (B := N) X [.int .i64 (vF k), .int .i64 (sF k)] 44 hNX, rfl⟩
    exact ⟨hi.1, ⟨hi.2.1.1.below hb9, hi.2.1.2.1.below hb9, hi.2.1.2.2.below hb9⟩, hi.2.2.1.trans (hb9.mono hi.2.2.1.size), Nat.le_trans hNX hb9.size⟩
  case body =>
    rintro l2 k a' X hl hk ⟨hkk, ⟨Zn, Zm, Za⟩, hBX, hNX⟩ ⟨Bx, t0, t1, t2, t3, t4, t10, t11, t12, t13, t14, t15, t16, t17, t18, t19, t20, t21, t22, t23, hBx, HB2, rfl⟩
    obtain ⟨gk, hgk⟩ : ∃ z, gF k = z := ⟨_, rfl⟩
    obtain ⟨v9, hv9⟩ : ∃ z, vF k = z := ⟨_, rfl⟩
    obtain ⟨s9, hs9⟩ : ∃ z, sF k = z := ⟨_, rfl⟩
    have hkN : k < NN := by have := hNN.out; omega
    have hga := hgL.out k hkN
    rw [hgk] at hga
    obtain ⟨x9, hx9⟩ : ∃ z, Hid (L.getD gk 0 = z) := ⟨_, Lib.hid rfl⟩
    have hgl : gk < L.length := by have := han.out; omega
    have hx8 : L[gk] = x9 := by rw [← hx9.out, List.getD_eq_getElem?_getD, List.getElem?_eq_getElem hgl]; rfl
    have hPk : k < kk → ¬ x9 < v9 := fun h => by have := hk2.out k h; rw [hgk, hv9, hx9.out] at this; omega
    have hPs : k = kk → x9 < v9 := fun h => by have := hk3.out (by omega); rw [← h, hgk, hv9, hx9.out] at this; omega
    obtain ⟨cb, co, rfl, hlc, _⟩ := (hC.out.below hBX).at' hgl
    have hcc := sl_intA (hC.out.below hBX) hgl hx8
    rw [hv9, hs9] at HB2
    have q0 : ¬ (gk : Int) < 0 := by omega
    have q1 : (gk : Int) < (an : Int) := by omega
    obtain ⟨i0, i1⟩ := b2 HB2
    have a0 := b1 Za
    have lb := HB2.lt
    have la := Za.lt
    have lc := hlc
    have HS : Hid (∀ y, Below X.heap.size X y → y.cell? ⟨Bx, 0, none⟩ = some (.int .i64 v9) ∧ y.cell? ⟨Bx, 1, none⟩ = some (.int .i64 s9) ∧ y.cell? ⟨ab, 0, none⟩ = some (.slice (some ⟨cb, co, none⟩) an cc) ∧ y.cell? ⟨cb, co + gk, none⟩ = some (.int .i64 x9)) := Lib.hid fun y hy => ⟨(hy.cell (p := ⟨Bx, 0, none⟩) lb).trans i0, (hy.cell (p := ⟨Bx, 1, none⟩) lb).trans i1, (hy.cell (p := ⟨ab, 0, none⟩) la).trans a0, (hy.cell (p := ⟨cb, co + gk, none⟩) lc).trans hcc⟩
    have i2 := hcc
    rw [hgk]
    clear hx8 hcc hgl hgk hv9
    gi_upto_region 4 with (fail)
    refine wpIn_np ?_
    refine wpIn_round_held (S := (fun w' => w'.cell? ⟨Bx, 0, none⟩ = some (.int .i64 v9) ∧ w'.cell? ⟨Bx, 1, none⟩ = some (.int .i64 s9) ∧ w'.cell? ⟨ab, 0, none⟩ = some (.slice (some ⟨cb, co, none⟩) an cc) ∧ w'.cell? ⟨cb, co + gk, none⟩ = some (.int .i64 x9))) (by kernel_rfl) (by kernel_rfl) not_letsOut_np (HS.out _ (Below.refl _ _).drew) (fun hHeld => ?_)
    have hT0 : Below X.heap.size X X.drew := (Below.refl _ _).drew
    generalize hdr : X.drew = v0 at *
    clear hdr
    refine tkH 0 ⟨some 15, _, _, _, _, _⟩ ?_ rfl ?_ (by assumption) ?_
    rotate_left
    · (intro w hSw; (try dsimp only at hSw); go_simp; all_goals with_reducible rfl)
    try simp only [Act.put, sA, sB, sC]
    refine tkH 1 ⟨some 16, _, _, _, _, _⟩ ?_ rfl ?_ (by assumption) ?_
    rotate_left
    · (intro w hSw; (try dsimp only at hSw); go_simp; all_goals with_reducible rfl)
    try simp only [Act.put, sA, sB, sC]
    refine tkH 2 ⟨some 17, _, _, _, _, _⟩ ?_ rfl ?_ (by assumption) ?_
    rotate_left
    · (intro w hSw; (try dsimp only at hSw); go_simp; all_goals with_reducible rfl)
    try simp only [Act.put, sA, sB, sC]
    refine tkH 3 ⟨some 18, _, _, _, _, _⟩ ?_ rfl ?_ (by assumption) ?_
    rotate_left
    · (intro w hSw; (try dsimp only at hSw); go_simp; all_goals with_reducible rfl)
    try simp only [Act.put, sA, sB, sC]
    refine tkH 4 ⟨some 19, _, _, _, _, _⟩ ?_ rfl ?_ (by assumption) ?_
    rotate_left
    · (intro w hSw; (try dsimp only at hSw); go_simp; all_goals with_reducible rfl)
    try simp only [Act.put, sA, sB, sC]
    refine tkH 5 ⟨some 20, _, _, _, _, _⟩ ?_ rfl ?_ (by assumption) ?_
    rotate_left
    · (intro w hSw; (try dsimp only at hSw); go_simp; all_goals with_reducible rfl)
    try simp only [Act.put, sA, sB, sC]
    refine tkH 6 ⟨some 21, _, _, _, _, _⟩ ?_ rfl ?_ (by assumption) ?_
    rotate_left
    · (intro w hSw; (try dsimp only at hSw); go_simp; all_goals with_reducible rfl)
    try simp only [Act.put, sA, sB, sC]
    refine wpAnyH_done (by kernel_rfl) ?_ _
    clear hHeld HS
    have HB9 := Lib.hid hT0
    obtain ⟨y9, hy9⟩ : ∃ z, z = v0 := ⟨_, rfl⟩
    skip
    replace Zn := Zn.below HB9.out
    replace Zm := Zm.below HB9.out
    replace Za := Za.below HB9.out
    have FK : KeepsFrom N X v0 := keepsFrom_below _ HB9.out
    have FX : KeepX [] X v0 := keepX_of_below HB9.out
    have hBY := hBX.trans (HB9.out.mono hBX.size)
    have ix := (HB9.out.cell (p := ⟨Bx, 1, none⟩) lb).trans i1
    have hNY : N ≤ v0.heap.size := Nat.le_trans hNX HB9.out.size
    clear i0 i1 i2 HB9 hT0 hy9 y9 HB2 a0 hBX
    have hBX := hBY
    clear hBY
    by_cases hlt : x9 < v9
    · have hkq : k = kk := by
        rcases Nat.lt_or_ge k kk with h | h
        · exact absurd hlt (hPk h)
        · omega
      have n0 := b1 Zn
      have m0 := b1 Zm
      have nf := Zn.fz
      have mf := Zm.fz
      clear hPk hPs
      gi_wp2
      have Z1 : BlkF ((v0.setCell ⟨nb, 0, none⟩ (.int .i64 s9)).setCell ⟨mb, 0, none⟩ (.bool true)) w.heap.size nb [.int .i64 s9] := (BlkF.st (vs' := [.int .i64 s9]) Zn rfl).other (c := mb) (i := 0) (l := [.bool true]) dnm
      have Z2 : BlkF ((v0.setCell ⟨nb, 0, none⟩ (.int .i64 s9)).setCell ⟨mb, 0, none⟩ (.bool true)) w.heap.size mb [.bool true] := BlkF.st (vs' := [.bool true]) (Zm.other (c := nb) (i := 0) (l := [.int .i64 s9]) dmn) rfl
      have hB4 : Below w.heap.size w ((v0.setCell ⟨nb, 0, none⟩ (.int .i64 s9)).setCell ⟨mb, 0, none⟩ (.bool true)) := (hBX.setCell (p := ⟨nb, 0, none⟩) (show w.heap.size ≤ nb by omega) _).setCell (p := ⟨mb, 0, none⟩) (show w.heap.size ≤ mb by omega) _
      have FZ : KeepsFrom N X ((v0.setCell ⟨nb, 0, none⟩ (.int .i64 s9)).setCell ⟨mb, 0, none⟩ (.bool true)) := (FK.trans ((KeepsOthers.setCell _ _ _).from _)).trans ((KeepsOthers.setCell _ _ _).from _)
      exact ⟨by first | exact FZ | (rw [hN]; exact FZ), ⟨rfl, by first | exact hkq | rfl, by rw [← hkq, hs9]; exact Z1, Z2⟩, hB4⟩
    · have hkq : k < kk := by
        rcases Nat.lt_or_ge k kk with h | h
        · exact h
        · exact absurd (hPs (by omega)) hlt
      have hlt2 : ¬ x9 < v9 := hlt
      clear hPk hPs hlt
      gi_wp2
      exact ⟨by first | exact FK | (rw [hN]; exact FK), FX, by omega, ⟨Zn, Zm, Za⟩, hBX, hNY⟩

  case done =>
    rintro Dq X hDq ⟨hkN, ⟨Zn, Zm, _⟩, hBX, _⟩ hK
    have hkN2 : ¬ kk < NN := by have := hNN.out; omega
    obtain rfl : z = 0 := by rw [← hz9.out, if_neg hkN2]
    obtain rfl : bz = false := by rw [← hbz.out]; exact decide_eq_false hkN2
    have n0 := b1 Zn
    have m0 := b1 Zm
    have nf := Zn.fz
    have mf := Zm.fz
    have zn := Zn.lt
    have zm := Zm.lt
    clear hkN hkN2
    gi_wp2
    have Z1 : BlkF ((X.setCell ⟨nb, 0, none⟩ (.int .i64 0)).setCell ⟨mb, 0, none⟩ (.bool false)) w.heap.size nb [.int .i64 0] := (BlkF.st (vs' := [.int .i64 0]) Zn rfl).other (c := mb) (i := 0) (l := [.bool false]) dnm
    have Z2 : BlkF ((X.setCell ⟨nb, 0, none⟩ (.int .i64 0)).setCell ⟨mb, 0, none⟩ (.bool false)) w.heap.size mb [.bool false] := BlkF.st (vs' := [.bool false]) (Zm.other (c := nb) (i := 0) (l := [.int .i64 0]) dmn) rfl
    have hB4 : Below w.heap.size w ((X.setCell ⟨nb, 0, none⟩ (.int .i64 0)).setCell ⟨mb, 0, none⟩ (.bool false)) := (hBX.setCell (p := ⟨nb, 0, none⟩) (show w.heap.size ≤ nb by omega) _).setCell (p := ⟨mb, 0, none⟩) (show w.heap.size ≤ mb by omega) _
    have hK4 : ((X.setCell ⟨nb, 0, none⟩ (.int .i64 0)).setCell ⟨mb, 0, none⟩ (.bool false)).heap[Dq]? = some (.deferred (some [])) := (Below.heap_setCell _ _ _ Dq (by show Dq ≠ mb; omega)).trans ((Below.heap_setCell _ _ _ Dq (by show Dq ≠ nb; omega)).trans hK)
    refine ⟨by simp, .inl ⟨_, _, rfl, run_takeDeferred hK4, ?_⟩⟩
    generalize (X.setCell ⟨nb, 0, none⟩ (.int .i64 0)).setCell ⟨mb, 0, none⟩ (.bool false) = V at Z1 Z2 hB4 hK4 ⊢
    have n1 : (V.putObj Dq (.deferred none)).cell? ⟨nb, 0, none⟩ = some (.int .i64 0) := (World.cell?_of_block (a := ⟨nb, 0, none⟩) (World.putObj_heap_other (show nb ≠ Dq by omega))).trans (b1 Z1)
    have m1 : (V.putObj Dq (.deferred none)).cell? ⟨mb, 0, none⟩ = some (.bool false) := (World.cell?_of_block (a := ⟨mb, 0, none⟩) (World.putObj_heap_other (show mb ≠ Dq by omega))).trans (b1 Z2)
    have hBY : Below w.heap.size w (V.putObj Dq (.deferred none)) := hB4.trans (belowK_b (w := w) (Nat.le_refl _) V Dq _ _ (by have := hBW.size; omega) hK4 rfl rfl)
    generalize V.putObj Dq (.deferred none) = Y at n1 m1 hBY ⊢
    clear hK hK4 hB4 hBX n0 m0 nf mf Z1 Z2 Zn Zm
    exact ⟨.tuple #[.int .i64 0, .bool false], by simp [results, Tryz.results39, go_sem, *], rfl, hBY⟩
  case stop =>
    rintro Dq c k X hDq hk ⟨⟨rfl, rfl, Zn, Zm⟩, hBX⟩ hK
    obtain ⟨_, _, h3⟩ := hF.out k
    have hkN : k < NN := by have := hNN.out; omega
    have h4 : sF k = z := by rw [h3, ← hz9.out, if_pos hkN]; omega
    obtain rfl : bz = true := by rw [← hbz.out]; exact decide_eq_true hkN
    rw [h4] at Zn
    clear h3 h4
    have n0 := b1 Zn
    have m0 := b1 Zm
    have zn := Zn.lt
    have zm := Zm.lt
    gi_wp2
    refine ⟨by simp, .inl ⟨_, _, rfl, run_takeDeferred hK, ?_⟩⟩
    have n1 : (X.putObj Dq (.deferred none)).cell? ⟨nb, 0, none⟩ = some (.int .i64 z) := (World.cell?_of_block (a := ⟨nb, 0, none⟩) (World.putObj_heap_other (show nb ≠ Dq by omega))).trans n0
    have m1 : (X.putObj Dq (.deferred none)).cell? ⟨mb, 0, none⟩ = some (.bool true) := (World.cell?_of_block (a := ⟨mb, 0, none⟩) (World.putObj_heap_other (show mb ≠ Dq by omega))).trans m0
    have hBY : Below w.heap.size w (X.putObj Dq (.deferred none)) := hBX.trans (belowK_b (w := w) (Nat.le_refl _) X Dq _ _ (by have := hBW.size; omega) hK rfl rfl)
    generalize X.putObj Dq (.deferred none) = Y at n1 m1 hBY ⊢
    clear hK hBX n0 m0
    exact ⟨.tuple #[.int .i64 z, .bool true], by simp [results, Tryz.results39, go_sem, *], rfl, hBY⟩
end Go.Proofs.YtijdphlejokijaaGreat
