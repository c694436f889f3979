import Derived.Test.YtojaompfffpofaaGreatZCSSort
import Derived.Outline
namespace Go.Proofs.YtojaompfffpofaaGreat
open Go.ChangeShapes Go.WideShapes Go.ChangeAt Go.RowKit
set_option linter.unusedVariables false
set_option linter.unusedSimpArgs false
attribute [local go_sem ↓] Go.wp_at_zero Go.wp_at_succ
theorem Join_is (LA LB : List Rg) (A B : Option Addr) (na nb ca cb : Nat) (w : World) (hna : Hid (na = LA.length)) (hnb : Hid (nb = LB.length)) (na2 : na + nb ≤ 30)
    (HA : Hid (∀ w' : World, Below w.heap.size w w' → SlRows rgV 2 w' A LA)) (HB : Hid (∀ w' : World, Below w.heap.size w w' → SlRows rgV 2 w' B LB)) (CA : Hid (A = none → na = 0 ∧ ca = 0)) (CB : Hid (B = none → nb = 0 ∧ cb = 0)) (hEa : Hid (winE LA = 0)) (hEb : Hid (winE LB = 0)) :
    Calls Tryz.prog 29 #[.slice A na ca, .slice B nb cb] w (WofP (wof (fun m => inW LA m || inW LB m) (srt (mks (LA ++ LB)))).1 w) := by
  go_enter Tryz.func29, Tryz.ntmps29
  go_wp2_with fail
  refine (combJ_is LA LB A B na nb ca cb _ (Lib.hid sort_ok) hna hnb na2 HA HB CA CB hEa hEb).mono ?_
  rintro e x ⟨G, cg, rfl, hS, hN, hb⟩
  have HS := Lib.hid hS
  have HN := Lib.hid hN
  clear hS hN
  go_wp2
  go_ret2
  exact ⟨G, cg, rfl, HS.out, HN.out, hb⟩
set_option maxRecDepth 100000 in
set_option maxHeartbeats 1000000 in
/-- Two slices that hold the same windows are the same for the statements. -/
theorem ranges_t (L : List Rg) (A B : Option Addr) (ca cb n : Nat) (w : World) (hn : Hid (n = L.length)) (hl : n ≤ 1000000) (hA : SlRows rgV 2 w A L) (hB : SlRows rgV 2 w B L) :
    Calls Tryz.prog 22 #[.slice A n ca, .slice B n cb] w fun e w' => e = .returned (.bool true) ∧ Below w.heap.size w w' := by
  have HA : Hid (∀ w' : World, Below w.heap.size w w' → SlRows rgV 2 w' A L) := Lib.hid fun w' h => hA.below h
  have HB : Hid (∀ w' : World, Below w.heap.size w w' → SlRows rgV 2 w' B L) := Lib.hid fun w' h => hB.below h
  clear hA hB
  go_enter Tryz.func22, Tryz.ntmps22
  go_wp2
  go_loopw [5] (fun i wr => ∃ k : Nat, k ≤ n ∧ i = .int .i64 k ∧ Below w.heap.size w wr) (fun i _ => n - (intOf i).toNat)
  case atStart => exact ⟨0, by omega, rfl, (by (repeat (first | (with_reducible refine Below.drew ?_) | (with_reducible refine below_drewN ?_ _) | (with_reducible refine Below.alloc ?_ (by first | omega | (simp; done) | (simp; omega) | (simp at *; omega)) _) | (with_reducible refine Below.setCell ?_ (by first | omega | (simp; done) | (simp; omega) | (simp at *; omega)) _) | (with_reducible exact Below.refl _ _) | (with_reducible assumption) | (with_reducible refine Below.trans ?_ (Below.mono (by assumption) (by first | omega | (simp; done) | (simp; omega) | (simp at *; omega)))))))⟩
  case round =>
    obtain ⟨k, hk, rfl, hB0⟩ := hrel
    by_cases hkn : k < n
    · have hkl : k < L.length := by have := hn.out; omega
      have kn : (k : Int) < (n : Int) := by omega
      rcases HA.out _ hB0 with h0 | ⟨b1, o1, rfl, l1, hR1⟩
      · rw [h0] at hkl; simp at hkl
      rcases HB.out _ hB0 with h0 | ⟨b2, o2, rfl, l2, hR2⟩
      · rw [h0] at hkl; simp at hkl
      obtain ⟨c0, c1⟩ := rg_at hR1 hkl
      obtain ⟨d0, d1⟩ := rg_at hR2 hkl
      obtain ⟨⟨a, b⟩, hx⟩ : ∃ x, Hid (L.getD k default = x) := ⟨_, Lib.hid rfl⟩
      rw [hx.out] at c0 c1 d0 d1
      dsimp only at c0 c1 d0 d1
      clear hR1 hR2
      go_wp2_with fail
      go_big_quiet (fail)
      go_wp2
      go_roundw
      case rel => exact ⟨k + 1, by omega, by go_num, (by (repeat (first | (with_reducible refine Below.drew ?_) | (with_reducible refine below_drewN ?_ _) | (with_reducible refine Below.alloc ?_ (by first | omega | (simp; done) | (simp; omega) | (simp at *; omega)) _) | (with_reducible refine Below.setCell ?_ (by first | omega | (simp; done) | (simp; omega) | (simp at *; omega)) _) | (with_reducible exact Below.refl _ _) | (with_reducible assumption) | (with_reducible refine Below.trans ?_ (Below.mono (by assumption) (by first | omega | (simp; done) | (simp; omega) | (simp at *; omega)))))))⟩
      case measure => (simp [intOf]) <;> omega
    · have hkk : k = n := by omega
      clear hkk
      go_wp2
      go_ret
      exact ⟨rfl, hB0⟩
def exA : List Rg := [⟨0, 10⟩, ⟨20, 30⟩]
def exB : List Rg := [⟨5, 25⟩]
theorem ex_srt : srt (mks (exA ++ exB)) = [0, 5, 11, 20, 26, 31] := by
  have e : mks (exA ++ exB) = [0, 11, 20, 31, 5, 26] := rfl
  rw [e]
  unfold srt
  simp [List.mergeSort, List.MergeSort.Internal.splitInTwo, List.merge]
theorem ex_join : (wof (fun m => inW exA m || inW exB m) (srt (mks (exA ++ exB)))).1 = [⟨0, 30⟩] := by
  rw [ex_srt]
  kernel_rfl
theorem ex_win : winE exA = 0 ∧ winE exB = 0 := by decide +kernel
end Go.Proofs.YtojaompfffpofaaGreat
