import Derived.Test.YtgidmmmdpmophaaRSFBfP
import Derived.Test.YtgidmmmdpmophaaRSFENdM
import Derived.Outline
namespace Go.Proofs.Ytgidmmmdpmophaa
open Go.ChangeShapes Go.WideShapes Go.ChangeAt Go.RowKit
set_option linter.unusedVariables false
set_option linter.unusedSimpArgs false
attribute [local go_sem ↓] Go.wp_at_zero Go.wp_at_succ
theorem pt_getD {P : List Pt} {k : Nat} (h : k < P.length) : P.getD k default = P[k] := by rw [List.getD_eq_getElem?_getD, List.getElem?_eq_getElem h]; rfl
theorem sl_pt {X : World} {b o : Nat} {P : List Pt} (h : SlRows ptV 2 X (some ⟨b, o, none⟩) P) {k : Nat} (hk : k < P.length) {x y : Int} (hx : (P.getD k default).s = x) (hy : (P.getD k default).d = y) : X.cell? ⟨b, o + k * 2, none⟩ = some (.int .i64 x) ∧ X.cell? ⟨b, o + k * 2 + 1, none⟩ = some (.int .i64 y) ∧ b < X.heap.size := by
  rcases h with h | ⟨b', o', e, hl, hR⟩
  · rw [h] at hk; simp at hk
  · cases e
    rw [pt_getD hk] at hx hy
    rw [← hx, ← hy]
    exact ⟨(pt_at hR hk).1, (pt_at hR hk).2, hl⟩
theorem legAt1_is (a d t : Int) (c : Nat) (r : Bool) (w : World) (hlt : c < w.heap.size) (hc : w.cell? ⟨c, 0, none⟩ = some (.int .i64 t)) (hr : Hid (decide (t ≤ a) = r)) :
    Calls Try.prog 58 #[.agg #[.int .i64 a, .int .i64 d], .pointer (some ⟨c, 0, none⟩)] w fun e w' => e = .returned (.bool r) ∧ Below w.heap.size w w' := by
  have nc : w.heap.size ≠ c := by omega
  by_cases h : t ≤ a
  · obtain rfl : r = true := by rw [← hr.out]; exact decide_eq_true h
    clear hr
    go_enter Try.func58, Try.ntmps58
    go_wp2
    go_ret
    exact ⟨rfl, (by (repeat (first | (with_reducible refine Below.drew ?_) | (with_reducible refine below_drewN ?_ _) | (with_reducible refine Below.alloc ?_ (by first | omega | (simp; done) | (simp; omega) | (simp at *; omega)) _) | (with_reducible refine Below.setCell ?_ (by first | omega | (simp; done) | (simp; omega) | (simp at *; omega)) _) | (with_reducible exact Below.refl _ _) | (with_reducible assumption) | (with_reducible refine Below.trans ?_ (Below.mono (by assumption) (by first | omega | (simp; done) | (simp; omega) | (simp at *; omega)))))))⟩
  · obtain rfl : r = false := by rw [← hr.out]; exact decide_eq_false h
    clear hr
    go_enter Try.func58, Try.ntmps58
    go_wp2
    go_ret
    exact ⟨rfl, (by (repeat (first | (with_reducible refine Below.drew ?_) | (with_reducible refine below_drewN ?_ _) | (with_reducible refine Below.alloc ?_ (by first | omega | (simp; done) | (simp; omega) | (simp at *; omega)) _) | (with_reducible refine Below.setCell ?_ (by first | omega | (simp; done) | (simp; omega) | (simp at *; omega)) _) | (with_reducible exact Below.refl _ _) | (with_reducible assumption) | (with_reducible refine Below.trans ?_ (Below.mono (by assumption) (by first | omega | (simp; done) | (simp; omega) | (simp at *; omega)))))))⟩
theorem idxF_is (P : List Pt) (b o n cap c kk : Nat) (t : Int) (w : World) (hn : Hid (n = P.length)) (hl : n ≤ 1000000) (hS : Hid (SlRows ptV 2 w (some ⟨b, o, none⟩) P)) (hlt : c < w.heap.size) (hc : Hid (w.cell? ⟨c, 0, none⟩ = some (.int .i64 t))) (hk : kk < n) (hk2 : Hid (∀ j, j < kk → (P.getD j default).s < t)) (hk3 : Hid (t ≤ (P.getD kk default).s)) :
    Calls Try.prog 57 #[.slice (some ⟨b, o, none⟩) n cap, .func (.func 58) #[] #[.pointer (some ⟨c, 0, none⟩)]] w fun e w' => e = .returned (.int .i64 kk) ∧ Below w.heap.size w w' := by
  go_enter Try.func57, Try.ntmps57
  go_wp2
  go_loopw [8] (fun i wr => ∃ k : Nat, k ≤ kk ∧ i = .int .i64 k ∧ Below w.heap.size w wr) (fun i _ => kk - (intOf i).toNat)
  case atStart => exact ⟨0, by omega, rfl, (by (repeat (first | (with_reducible refine Below.drew ?_) | (with_reducible refine below_drewN ?_ _) | (with_reducible refine Below.alloc ?_ (by first | omega | (simp; done) | (simp; omega) | (simp at *; omega)) _) | (with_reducible refine Below.setCell ?_ (by first | omega | (simp; done) | (simp; omega) | (simp at *; omega)) _) | (with_reducible exact Below.refl _ _) | (with_reducible assumption) | (with_reducible refine Below.trans ?_ (Below.mono (by assumption) (by first | omega | (simp; done) | (simp; omega) | (simp at *; omega)))))))⟩
  case round =>
    obtain ⟨k, hkk, rfl, hB⟩ := hrel
    have zb := hB.size
    have kn : (k : Int) < (n : Int) := by omega
    have k0 : ¬ (k : Int) < 0 := by omega
    obtain ⟨x, hx⟩ : ∃ z, Hid ((P.getD k default).s = z) := ⟨_, Lib.hid rfl⟩
    obtain ⟨y, hy⟩ : ∃ z, Hid ((P.getD k default).d = z) := ⟨_, Lib.hid rfl⟩
    obtain ⟨c0, c1, lb⟩ := sl_pt (hS.out.below hB) (k := k) (by have := hn.out; omega) hx.out hy.out
    have hwk : IntKind.i64.wrap ((k : Int) + 1) = (k : Int) + 1 := IntWalk.i64_in _ (by omega)
    by_cases hlk : k < kk
    · have hr : Hid (decide (t ≤ x) = false) := Lib.hid (decide_eq_false (by have := hk2.out k hlk; rw [hx.out] at this; omega))
      go_wp2_with fail
      refine (legAt1_is x y t c false _ (by omega) ((hB.cell (p := ⟨c, 0, none⟩) hlt).trans hc.out) hr).mono ?_
      rintro e x1 ⟨rfl, hb1⟩
      have hB1 := hB.trans (hb1.mono zb)
      clear c0 c1 hb1
      go_wp2
      go_roundw
      case rel => exact ⟨k + 1, by omega, by go_num, hB1⟩
      case measure => simp [intOf]; omega
    · have hkq : k = kk := by omega
      have hr : Hid (decide (t ≤ x) = true) := Lib.hid (decide_eq_true (by have := hk3.out; rw [← hkq, hx.out] at this; exact this))
      have HKQ := Lib.hid hkq
      clear hkq hlk
      go_wp2_with fail
      refine (legAt1_is x y t c true _ (by omega) ((hB.cell (p := ⟨c, 0, none⟩) hlt).trans hc.out) hr).mono ?_
      rintro e x1 ⟨rfl, hb1⟩
      have hB1 := hB.trans (hb1.mono zb)
      clear c0 c1 hb1
      go_wp2
      go_ret
      exact ⟨by first | (rw [HKQ.out]; rfl) | rw [HKQ.out], hB1⟩
/-- What lies behind the first point. -/
theorem sl_tail {X : World} {b o : Nat} {P : List Pt} (h : SlRows ptV 2 X (some ⟨b, o, none⟩) P) : SlRows ptV 2 X (some ⟨b, o + 2, none⟩) (P.drop 1) := by
  rcases h with h | ⟨b', o', e, hl, hR⟩
  · exact Or.inl (by rw [h]; rfl)
  · cases e
    refine Or.inr ⟨b, o + 2, rfl, hl, fun k hk i hi => ?_⟩
    have hk2 : 1 + k < P.length := by rw [List.length_drop] at hk; omega
    have h1 := hR (1 + k) hk2 i hi
    rw [show o + (1 + k) * 2 + i = o + 2 + k * 2 + i by omega] at h1
    rw [h1, List.getElem_drop]
theorem drop_getD {P : List Pt} {k : Nat} : (P.drop 1).getD k default = P.getD (k + 1) default := by
  rw [List.getD_eq_getElem?_getD, List.getD_eq_getElem?_getD, List.getElem?_drop, Nat.add_comm]
theorem ptL_getD {D : List Le} {n k : Nat} (h : k < n) : (ptL D n).getD k default = ptK D k := by
  rw [pt_getD (by rw [ptL_len]; exact h), ptL_at]
theorem legAt_is (D : List Le) (b o dn cap kk : Nat) (t : Int) (w : World) (hd : dn ≤ 1000) (hS : Hid (SlRows ptV 2 w (some ⟨b, o, none⟩) (ptL D (dn + 1)))) (hcap : dn + 1 ≤ cap) (hk : kk < dn) (hk2 : Hid (∀ j, j < kk → secT D (j + 1) < t)) (hk3 : Hid (t ≤ secT D (kk + 1))) :
    Calls Try.prog 34 #[.slice (some ⟨b, o, none⟩) (dn + 1) cap, .int .i64 t] w fun e w' => e = .returned (.int .i64 kk) ∧ Below w.heap.size w w' := by
  have hn : Hid (dn = ((ptL D (dn + 1)).drop 1).length) := Lib.hid (by rw [List.length_drop, ptL_len]; omega)
  have hp : ∀ j, j < dn → (((ptL D (dn + 1)).drop 1).getD j default).s = secT D (j + 1) := fun j hj => by rw [drop_getD, ptL_getD (by omega)]; rfl
  have hc2 : ¬ cap - 1 = 0 := by omega
  have hc3 : ¬ cap < dn + 1 := by omega
  have hc4 : 1 ≤ dn + 1 := by omega
  have hi1 : (1 : Int) ≤ (dn : Int) + 1 := by omega
  have hi2 : (dn : Int) + 1 ≤ (cap : Int) := by omega
  have hs1 : dn + 1 - 1 = dn := by omega
  go_enter Try.func34, Try.ntmps34
  go_wp2_with fail
  refine (idxF_is ((ptL D (dn + 1)).drop 1) b (o + 2) dn (cap - 1) w.heap.size kk t _ hn (by omega) (Lib.hid (sl_tail (hS.out.below (by (repeat (first | (with_reducible refine Below.drew ?_) | (with_reducible refine below_drewN ?_ _) | (with_reducible refine Below.alloc ?_ (by first | omega | (simp; done) | (simp; omega) | (simp at *; omega)) _) | (with_reducible refine Below.setCell ?_ (by first | omega | (simp; done) | (simp; omega) | (simp at *; omega)) _) | (with_reducible exact Below.refl _ _) | (with_reducible assumption) | (with_reducible refine Below.trans ?_ (Below.mono (by assumption) (by first | omega | (simp; done) | (simp; omega) | (simp at *; omega)))))))))) (by simp) (Lib.hid (by simp [go_sem])) hk (Lib.hid fun j hj => by rw [hp j (by omega)]; exact hk2.out j hj) (Lib.hid (by rw [hp kk hk]; exact hk3.out))).mono ?_
  rintro e x1 ⟨rfl, hb1⟩
  have hB1 : Below w.heap.size w x1 := ((Below.refl w.heap.size w).alloc (Nat.le_refl _) _).trans (hb1.mono (by simp))
  go_wp2
  go_ret
  exact ⟨rfl, hB1⟩
end Go.Proofs.Ytgidmmmdpmophaa
