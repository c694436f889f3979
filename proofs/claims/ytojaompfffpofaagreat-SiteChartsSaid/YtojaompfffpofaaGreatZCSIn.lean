import Derived.Test.YtojaompfffpofaaGreatZCSWin
import Derived.Outline
namespace Go.Proofs.YtojaompfffpofaaGreat
open Go.ChangeShapes Go.WideShapes Go.ChangeAt Go.RowKit
set_option linter.unusedVariables false
set_option linter.unusedSimpArgs false
attribute [local go_sem ↓] Go.wp_at_zero Go.wp_at_succ
def inW (L : List Rg) (m : Int) : Bool := L.any fun x => inB m x.lo x.hi
theorem inW_at {L : List Rg} {m : Int} {k : Nat} (hk : k < L.length) (h : inB m (L.getD k default).lo (L.getD k default).hi = true) : inW L m = true := by
  have e : L.getD k default = L[k] := by rw [List.getD_eq_getElem?_getD, List.getElem?_eq_getElem hk]; rfl
  rw [e] at h
  exact List.any_eq_true.2 ⟨_, List.getElem_mem hk, h⟩
theorem inW_no {L : List Rg} {m : Int} (h : ∀ j, j < L.length → inB m (L.getD j default).lo (L.getD j default).hi = false) : inW L m = false := by
  unfold inW
  rw [List.any_eq_false]
  intro x hx
  obtain ⟨k, hk, rfl⟩ := List.getElem_of_mem hx
  have := h k hk
  rw [show L.getD k default = L[k] by rw [List.getD_eq_getElem?_getD, List.getElem?_eq_getElem hk]; rfl] at this
  rw [this]; exact Bool.false_ne_true
theorem isIn1_is (lo hi m : Int) (c : Nat) (p : Bool) (w : World) (hc : w.cell? ⟨c, 0, none⟩ = some (.int .i64 m)) (hcl : c < w.heap.size) (hp : Hid (inB m lo hi = p)) :
    Calls Tryz.prog 148 #[.agg #[.int .i64 lo, .int .i64 hi], .pointer (some ⟨c, 0, none⟩)] w fun e w' => e = .returned (.bool p) ∧ Below w.heap.size w w' := by
  have hW : Hid (∀ w, Calls Tryz.prog 126 #[.int .i64 m, .int .i64 lo, .int .i64 hi] w fun e w' => e = .returned (.bool p) ∧ w = w') := Lib.hid fun w => by rw [← hp.out]; exact cWithin_any m lo hi w
  have o1 : c ≠ w.heap.size := by omega
  have o2 : w.heap.size ≠ c := by omega
  go_enter Tryz.func148, Tryz.ntmps148
  go_wp2_with ((go_at_call 126; ((with_reducible refine (hW.out _).mono ?_)); rintro e w' ⟨rfl, rfl⟩))
  go_ret
  exact ⟨rfl, (by (repeat (first | (with_reducible refine Below.drew ?_) | (with_reducible refine below_drewN ?_ _) | (with_reducible refine Below.alloc ?_ (by first | omega | (simp; done) | (simp; omega) | (simp at *; omega)) _) | (with_reducible refine Below.setCell ?_ (by first | omega | (simp; done) | (simp; omega) | (simp at *; omega)) _) | (with_reducible exact Below.refl _ _) | (with_reducible assumption) | (with_reducible refine Below.trans ?_ (Below.mono (by assumption) (by first | omega | (simp; done) | (simp; omega) | (simp at *; omega)))))))⟩
/-- The number of the first window that has a minute, or -1. -/
def IdxR (p : Bool) (n : Nat) (w : World) (e : Ending) (w' : World) : Prop := ((p = true ∧ ∃ k : Nat, k < n ∧ e = .returned (.int .i64 k)) ∨ (p = false ∧ e = .returned (.int .i64 (-1)))) ∧ Below w.heap.size w w'
set_option maxRecDepth 100000 in
set_option maxHeartbeats 2000000 in
theorem indexWin_is (L : List Rg) (A : Option Addr) (cap n c : Nat) (m : Int) (p : Bool) (w : World) (hn : Hid (n = L.length)) (hl : n ≤ 1000000) (hL : SlRows rgV 2 w A L) (hc : w.cell? ⟨c, 0, none⟩ = some (.int .i64 m)) (hcl : c < w.heap.size) (hp : Hid (inW L m = p)) :
    Calls Tryz.prog 154 #[.slice A n cap, .func (.func 148) #[] #[.pointer (some ⟨c, 0, none⟩)]] w (IdxR p n w) := by
  have HR : Hid (∀ w' : World, Below w.heap.size w w' → SlRows rgV 2 w' A L) := Lib.hid fun w' hB => hL.below hB
  clear hL
  go_enter Tryz.func154, Tryz.ntmps154
  go_wp2
  go_loopw [8] (fun i wr => ∃ k : Nat, k ≤ n ∧ i = .int .i64 k ∧ Hid (∀ j, j < k → inB m (L.getD j default).lo (L.getD j default).hi = false) ∧ Below w.heap.size w wr) (fun i _ => n - (intOf i).toNat)
  case atStart => exact ⟨0, by omega, rfl, Lib.hid fun j hj => by omega, (by (repeat (first | (with_reducible refine Below.drew ?_) | (with_reducible refine below_drewN ?_ _) | (with_reducible refine Below.alloc ?_ (by first | omega | (simp; done) | (simp; omega) | (simp at *; omega)) _) | (with_reducible refine Below.setCell ?_ (by first | omega | (simp; done) | (simp; omega) | (simp at *; omega)) _) | (with_reducible exact Below.refl _ _) | (with_reducible assumption) | (with_reducible refine Below.trans ?_ (Below.mono (by assumption) (by first | omega | (simp; done) | (simp; omega) | (simp at *; omega)))))))⟩
  case round =>
    obtain ⟨k, hk, rfl, hz, hB⟩ := hrel
    have hsz := hB.size
    by_cases hkn : k < n
    · have hkl : k < L.length := by have := hn.out; omega
      have kn : (k : Int) < (n : Int) := by omega
      rcases HR.out _ hB with h0 | ⟨bl, off, rfl, hlt, hR⟩
      · rw [h0] at hkl; simp at hkl
      obtain ⟨c0, c1⟩ := rg_at hR hkl
      obtain ⟨⟨a, b⟩, hx⟩ : ∃ x, Hid (L.getD k default = x) := ⟨_, Lib.hid rfl⟩
      rw [hx.out] at c0 c1
      dsimp only at c0 c1
      have cw := (hB.cell (p := ⟨c, 0, none⟩) hcl).trans hc
      have hcw : c < wr.heap.size := by omega
      rcases inB_cases m a b with hi | hi
      · have hr : Hid (p = true) := Lib.hid (by rw [← hp.out]; exact inW_at hkl (by rw [hx.out]; exact hi))
        have HI := Lib.hid hi
        clear hi hz hR
        go_wp2_with fail
        refine (isIn1_is a b m c true _ cw hcw HI).mono ?_
        rintro e w1 ⟨rfl, hb1⟩
        have hB1 : Below w.heap.size w w1 := hB.trans (hb1.mono hB.size)
        clear hb1
        go_wp2
        go_ret
        exact ⟨Or.inl ⟨hr.out, k, hkn, rfl⟩, hB1⟩
      · have hz2 : Hid (∀ j, j < k + 1 → inB m (L.getD j default).lo (L.getD j default).hi = false) := Lib.hid fun j hj => by
          by_cases e : j = k
          · rw [e, hx.out]; exact hi
          · exact hz.out j (by omega)
        have HI := Lib.hid hi
        clear hi hz hR
        go_wp2_with fail
        refine (isIn1_is a b m c false _ cw hcw HI).mono ?_
        rintro e w1 ⟨rfl, hb1⟩
        have hB1 : Below w.heap.size w w1 := hB.trans (hb1.mono hB.size)
        clear hb1
        go_wp2
        go_roundw
        case rel => exact ⟨k + 1, by omega, by go_num, hz2, hB1⟩
        case measure => (simp [intOf]) <;> omega
    · have hkk : k = n := by omega
      have hr : Hid (p = false) := Lib.hid (by rw [← hp.out]; exact inW_no fun j hj => hz.out j (by have := hn.out; omega))
      clear hz hkk
      go_wp2
      go_ret
      exact ⟨Or.inr ⟨hr.out, rfl⟩, hB⟩
theorem containsWin_is (L : List Rg) (A : Option Addr) (cap n c : Nat) (m : Int) (p : Bool) (w : World) (hn : Hid (n = L.length)) (hl : n ≤ 1000000) (hL : SlRows rgV 2 w A L) (hc : w.cell? ⟨c, 0, none⟩ = some (.int .i64 m)) (hcl : c < w.heap.size) (hp : Hid (inW L m = p)) :
    Calls Tryz.prog 133 #[.slice A n cap, .func (.func 148) #[] #[.pointer (some ⟨c, 0, none⟩)]] w fun e w' => e = .returned (.bool p) ∧ Below w.heap.size w w' := by
  have HL := Lib.hid hL
  clear hL
  go_enter Tryz.func133, Tryz.ntmps133
  go_wp2_with fail
  refine (indexWin_is L A cap n c m p _ hn hl HL.out hc hcl hp).mono ?_
  rintro e w1 ⟨⟨hpt, k, hk, rfl⟩ | ⟨hpf, rfl⟩, hb⟩
  · have HP := Lib.hid hpt
    have i0 : (0 : Int) ≤ (k : Int) := by omega
    clear hpt
    go_wp2
    go_ret
    exact ⟨ret_bool HP.out.symm, hb⟩
  · have HP := Lib.hid hpf
    clear hpf
    go_wp2
    go_ret
    exact ⟨ret_bool HP.out.symm, hb⟩
theorem isIn_is (L : List Rg) (A : Option Addr) (cap n : Nat) (m : Int) (p : Bool) (w : World) (hn : Hid (n = L.length)) (hl : n ≤ 1000000) (hL : SlRows rgV 2 w A L) (hp : Hid (inW L m = p)) :
    Calls Tryz.prog 120 #[.slice A n cap, .int .i64 m] w fun e w' => e = .returned (.bool p) ∧ Below w.heap.size w w' := by
  have HR : Hid (∀ w' : World, Below w.heap.size w w' → SlRows rgV 2 w' A L) := Lib.hid fun w' hB => hL.below hB
  clear hL
  go_enter Tryz.func120, Tryz.ntmps120
  go_wp2_with fail
  refine (containsWin_is L A cap n w.heap.size m p _ hn hl (HR.out _ (by (repeat (first | (with_reducible refine Below.drew ?_) | (with_reducible refine below_drewN ?_ _) | (with_reducible refine Below.alloc ?_ (by first | omega | (simp; done) | (simp; omega) | (simp at *; omega)) _) | (with_reducible refine Below.setCell ?_ (by first | omega | (simp; done) | (simp; omega) | (simp at *; omega)) _) | (with_reducible exact Below.refl _ _) | (with_reducible assumption) | (with_reducible refine Below.trans ?_ (Below.mono (by assumption) (by first | omega | (simp; done) | (simp; omega) | (simp at *; omega)))))))) (by simp [go_sem]) (by simp) hp).mono ?_
  rintro e w1 ⟨rfl, hb1⟩
  have hB1 : Below w.heap.size w w1 := (by (repeat (first | (with_reducible refine Below.drew ?_) | (with_reducible refine below_drewN ?_ _) | (with_reducible refine Below.alloc ?_ (by first | omega | (simp; done) | (simp; omega) | (simp at *; omega)) _) | (with_reducible refine Below.setCell ?_ (by first | omega | (simp; done) | (simp; omega) | (simp at *; omega)) _) | (with_reducible exact Below.refl _ _) | (with_reducible assumption) | (with_reducible refine Below.trans ?_ (Below.mono (by assumption) (by first | omega | (simp; done) | (simp; omega) | (simp at *; omega)))))))
  clear hb1
  go_wp2
  go_ret
  exact ⟨rfl, hB1⟩
end Go.Proofs.YtojaompfffpofaaGreat
