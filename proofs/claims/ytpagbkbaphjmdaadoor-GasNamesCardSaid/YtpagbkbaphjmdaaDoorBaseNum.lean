/- What the base's reading of a number returns. -/
import Derived.Test.YtpagbkbaphjmdaaDoorBaseDec
import Derived.Outline
namespace Go.Proofs.YtpagbkbaphjmdaaDoor
open Go.ChangeShapes Go.WideShapes Go.ChangeAt Go.RowKit
set_option linter.unusedVariables false
set_option linter.unusedSimpArgs false

/-- The number of some digits. -/
def valD (l : List UInt8) : Int := l.foldl (fun a c => 10 * a + ((c.toNat : Int) - 48)) 0
theorem valD_snoc (l : List UInt8) (c : UInt8) : valD (l ++ [c]) = 10 * valD l + ((c.toNat : Int) - 48) := by
  unfold valD; rw [List.foldl_append]; rfl
theorem take_snoc (S : ByteArray) {k : Nat} (hk : k < S.size) : S.data.toList.take (k + 1) = S.data.toList.take k ++ [S[k]] := by
  have h : k < S.data.toList.length := by simpa using hk
  rw [List.take_succ_eq_append_getElem h]
  rfl
/-- Some number, and whether it is one. -/
def NumRes (e : Ending) : Prop := ∃ (n : Int) (b : Bool), e = .returned (.tuple #[.int .i64 n, .bool b])
set_option maxRecDepth 100000 in
set_option maxHeartbeats 1000000 in
theorem baseNumber_a (S : ByteArray) (w : World) (hl : S.size ≤ 1000) (h0 : S.size = 0) :
    Calls Tryd.prog 21 #[.string S, .int .i64 4] w fun e w' => NumRes e ∧ Below w.heap.size w w' := by
  go_enter Tryd.func21, Tryd.ntmps21
  go_wp2
  go_ret2
  exact ⟨⟨0, false, rfl⟩, (by (repeat (first | (with_reducible refine Below.drew ?_) | (with_reducible refine below_drewN ?_ _) | (with_reducible refine Below.alloc ?_ (by first | omega | (simp; done) | (simp; omega) | (simp at *; omega)) _) | (with_reducible refine Below.setCell ?_ (by first | omega | (simp; done) | (simp; omega) | (simp at *; omega)) _) | (with_reducible exact Below.refl _ _) | (with_reducible assumption) | (with_reducible refine Below.trans ?_ (Below.mono (by assumption) (by first | omega | (simp; done) | (simp; omega) | (simp at *; omega)))))))⟩
set_option maxRecDepth 100000 in
set_option maxHeartbeats 1000000 in
theorem baseNumber_b (S : ByteArray) (w : World) (hl : S.size ≤ 1000) (z : 0 < S.size) (c0 : Nat) (hc : S[0].toNat = c0) (h0 : S.size = 1) (k0 : c0 = 45) :
    Calls Tryd.prog 21 #[.string S, .int .i64 4] w fun e w' => NumRes e ∧ Below w.heap.size w w' := by
  subst k0
  go_enter Tryd.func21, Tryd.ntmps21
  go_wp2
  go_ret2
  exact ⟨⟨0, false, rfl⟩, (by (repeat (first | (with_reducible refine Below.drew ?_) | (with_reducible refine below_drewN ?_ _) | (with_reducible refine Below.alloc ?_ (by first | omega | (simp; done) | (simp; omega) | (simp at *; omega)) _) | (with_reducible refine Below.setCell ?_ (by first | omega | (simp; done) | (simp; omega) | (simp at *; omega)) _) | (with_reducible exact Below.refl _ _) | (with_reducible assumption) | (with_reducible refine Below.trans ?_ (Below.mono (by assumption) (by first | omega | (simp; done) | (simp; omega) | (simp at *; omega)))))))⟩
set_option maxRecDepth 100000 in
set_option maxHeartbeats 1000000 in
theorem baseNumber_c (S : ByteArray) (w : World) (hl : S.size ≤ 1000) (z : 0 < S.size) (c0 : Nat) (hc : S[0].toNat = c0) (h0 : 5 < S.size) (k0 : c0 = 45) :
    Calls Tryd.prog 21 #[.string S, .int .i64 4] w fun e w' => NumRes e ∧ Below w.heap.size w w' := by
  subst k0
  have d1 : ¬ S.size = 1 := by omega
  have d2 : ((S.size : Int) == 1) = false := by rw [beq_eq_false_iff_ne]; omega
  have e1 : IntKind.i64.wrap ((S.size : Int) - 1) = (S.size : Int) - 1 := IntWalk.i64_in _ (by omega)
  have d3 : decide (4 < (S.size : Int) - 1) = true := by simp; omega
  go_enter Tryd.func21, Tryd.ntmps21
  go_wp2
  go_ret2
  exact ⟨⟨0, false, rfl⟩, (by (repeat (first | (with_reducible refine Below.drew ?_) | (with_reducible refine below_drewN ?_ _) | (with_reducible refine Below.alloc ?_ (by first | omega | (simp; done) | (simp; omega) | (simp at *; omega)) _) | (with_reducible refine Below.setCell ?_ (by first | omega | (simp; done) | (simp; omega) | (simp at *; omega)) _) | (with_reducible exact Below.refl _ _) | (with_reducible assumption) | (with_reducible refine Below.trans ?_ (Below.mono (by assumption) (by first | omega | (simp; done) | (simp; omega) | (simp at *; omega)))))))⟩
set_option maxRecDepth 100000 in
set_option maxHeartbeats 1000000 in
theorem baseNumber_d (S : ByteArray) (w : World) (hl : S.size ≤ 1000) (z : 0 < S.size) (c0 : Nat) (hc : S[0].toNat = c0) (z1 : 1 < S.size) (h0 : S.size ≤ 5) (k0 : c0 = 45) (c1 : Nat) (hc1 : S[1].toNat = c1) (k1 : c1 = 48) :
    Calls Tryd.prog 21 #[.string S, .int .i64 4] w fun e w' => NumRes e ∧ Below w.heap.size w w' := by
  subst k0 k1
  have d1 : ¬ S.size = 1 := by omega
  have d2 : ((S.size : Int) == 1) = false := by rw [beq_eq_false_iff_ne]; omega
  have e1 : IntKind.i64.wrap ((S.size : Int) - 1) = (S.size : Int) - 1 := IntWalk.i64_in _ (by omega)
  have d3 : decide (4 < (S.size : Int) - 1) = false := by simp; omega
  go_enter Tryd.func21, Tryd.ntmps21
  go_wp2
  go_ret2
  exact ⟨⟨0, false, rfl⟩, (by (repeat (first | (with_reducible refine Below.drew ?_) | (with_reducible refine below_drewN ?_ _) | (with_reducible refine Below.alloc ?_ (by first | omega | (simp; done) | (simp; omega) | (simp at *; omega)) _) | (with_reducible refine Below.setCell ?_ (by first | omega | (simp; done) | (simp; omega) | (simp at *; omega)) _) | (with_reducible exact Below.refl _ _) | (with_reducible assumption) | (with_reducible refine Below.trans ?_ (Below.mono (by assumption) (by first | omega | (simp; done) | (simp; omega) | (simp at *; omega)))))))⟩
set_option maxRecDepth 100000 in
set_option maxHeartbeats 1000000 in
theorem baseNumber_e (S : ByteArray) (w : World) (hl : S.size ≤ 1000) (z : 0 < S.size) (c0 : Nat) (hc : S[0].toNat = c0) (z1 : 1 < S.size) (h0 : S.size ≤ 5) (k0 : c0 = 45) (c1 : Nat) (hc1 : S[1].toNat = c1) (k1 : ¬ c1 = 48) :
    Calls Tryd.prog 21 #[.string S, .int .i64 4] w fun e w' => NumRes e ∧ Below w.heap.size w w' := by
  subst k0
  have d1 : ¬ S.size = 1 := by omega
  have d2 : ((S.size : Int) == 1) = false := by rw [beq_eq_false_iff_ne]; omega
  have e1 : IntKind.i64.wrap ((S.size : Int) - 1) = (S.size : Int) - 1 := IntWalk.i64_in _ (by omega)
  have d3 : decide (4 < (S.size : Int) - 1) = false := by simp; omega
  have d4 : ((c1 : Int) == 48) = false := by simp; omega
  have d5 : ¬ (c1 : Int) = 48 := by omega
  go_enter Tryd.func21, Tryd.ntmps21
  go_wp2
  go_loopw [7, 8] (fun x i wr => ∃ (k : Nat) (v : Int), i = .int .i64 k ∧ x = .int .i64 v ∧ k ≤ S.size ∧ Below w.heap.size w wr) (fun _ i _ => S.size - (intOf i).toNat)
  case atStart => exact ⟨1, 0, rfl, rfl, by omega, (by (repeat (first | (with_reducible refine Below.drew ?_) | (with_reducible refine below_drewN ?_ _) | (with_reducible refine Below.alloc ?_ (by first | omega | (simp; done) | (simp; omega) | (simp at *; omega)) _) | (with_reducible refine Below.setCell ?_ (by first | omega | (simp; done) | (simp; omega) | (simp at *; omega)) _) | (with_reducible exact Below.refl _ _) | (with_reducible assumption) | (with_reducible refine Below.trans ?_ (Below.mono (by assumption) (by first | omega | (simp; done) | (simp; omega) | (simp at *; omega)))))))⟩
  case round =>
    obtain ⟨k, v, rfl, rfl, hk, hB⟩ := hrel
    by_cases hkl : k < S.size
    · obtain ⟨c, hcc⟩ : ∃ c : Nat, S[k].toNat = c := ⟨_, rfl⟩
      by_cases g1 : c < 48
      · have g2 : (c : Int) < 48 := by omega
        go_wp2
        go_ret2
        exact ⟨⟨0, false, rfl⟩, (by (repeat (first | (with_reducible refine Below.drew ?_) | (with_reducible refine below_drewN ?_ _) | (with_reducible refine Below.alloc ?_ (by first | omega | (simp; done) | (simp; omega) | (simp at *; omega)) _) | (with_reducible refine Below.setCell ?_ (by first | omega | (simp; done) | (simp; omega) | (simp at *; omega)) _) | (with_reducible exact Below.refl _ _) | (with_reducible assumption) | (with_reducible refine Below.trans ?_ (Below.mono (by assumption) (by first | omega | (simp; done) | (simp; omega) | (simp at *; omega)))))))⟩
      · by_cases g3 : 57 < c
        · have g2 : ¬ (c : Int) < 48 := by omega
          have g4 : (57 : Int) < c := by omega
          go_wp2
          go_ret2
          exact ⟨⟨0, false, rfl⟩, (by (repeat (first | (with_reducible refine Below.drew ?_) | (with_reducible refine below_drewN ?_ _) | (with_reducible refine Below.alloc ?_ (by first | omega | (simp; done) | (simp; omega) | (simp at *; omega)) _) | (with_reducible refine Below.setCell ?_ (by first | omega | (simp; done) | (simp; omega) | (simp at *; omega)) _) | (with_reducible exact Below.refl _ _) | (with_reducible assumption) | (with_reducible refine Below.trans ?_ (Below.mono (by assumption) (by first | omega | (simp; done) | (simp; omega) | (simp at *; omega)))))))⟩
        · have g2 : ¬ (c : Int) < 48 := by omega
          have g4 : ¬ (57 : Int) < c := by omega
          have g5 : IntKind.u8.wrap ((c : Int) - 48) = (c : Int) - 48 := by unfold IntKind.wrap; simp [IntKind.bits, IntKind.signed]; omega
          have g6 : IntKind.i64.wrap ((c : Int) - 48) = (c : Int) - 48 := IntWalk.i64_in _ (by omega)
          go_wp2
          go_roundw
          case rel => exact ⟨k + 1, _, by go_num, rfl, by omega, (by (repeat (first | (with_reducible refine Below.drew ?_) | (with_reducible refine below_drewN ?_ _) | (with_reducible refine Below.alloc ?_ (by first | omega | (simp; done) | (simp; omega) | (simp at *; omega)) _) | (with_reducible refine Below.setCell ?_ (by first | omega | (simp; done) | (simp; omega) | (simp at *; omega)) _) | (with_reducible exact Below.refl _ _) | (with_reducible assumption) | (with_reducible refine Below.trans ?_ (Below.mono (by assumption) (by first | omega | (simp; done) | (simp; omega) | (simp at *; omega)))))))⟩
          case measure => (simp [intOf]) <;> omega
    · have hkk : k = S.size := by omega
      go_wp2
      go_ret2
      exact ⟨⟨_, true, rfl⟩, (by (repeat (first | (with_reducible refine Below.drew ?_) | (with_reducible refine below_drewN ?_ _) | (with_reducible refine Below.alloc ?_ (by first | omega | (simp; done) | (simp; omega) | (simp at *; omega)) _) | (with_reducible refine Below.setCell ?_ (by first | omega | (simp; done) | (simp; omega) | (simp at *; omega)) _) | (with_reducible exact Below.refl _ _) | (with_reducible assumption) | (with_reducible refine Below.trans ?_ (Below.mono (by assumption) (by first | omega | (simp; done) | (simp; omega) | (simp at *; omega)))))))⟩
set_option maxRecDepth 100000 in
set_option maxHeartbeats 1000000 in
theorem baseNumber_f (S : ByteArray) (w : World) (hl : S.size ≤ 1000) (z : 0 < S.size) (c0 : Nat) (hc : S[0].toNat = c0) (h0 : 4 < S.size) (k0 : ¬ c0 = 45) :
    Calls Tryd.prog 21 #[.string S, .int .i64 4] w fun e w' => NumRes e ∧ Below w.heap.size w w' := by
  have d1 : ((c0 : Int) == 45) = false := by simp; omega
  have d2 : ¬ (c0 : Int) = 45 := by omega
  have d3 : ¬ S.size = 0 := by omega
  have d4 : ((S.size : Int) == 0) = false := by rw [beq_eq_false_iff_ne]; omega
  go_enter Tryd.func21, Tryd.ntmps21
  go_wp2
  go_ret2
  exact ⟨⟨0, false, rfl⟩, (by (repeat (first | (with_reducible refine Below.drew ?_) | (with_reducible refine below_drewN ?_ _) | (with_reducible refine Below.alloc ?_ (by first | omega | (simp; done) | (simp; omega) | (simp at *; omega)) _) | (with_reducible refine Below.setCell ?_ (by first | omega | (simp; done) | (simp; omega) | (simp at *; omega)) _) | (with_reducible exact Below.refl _ _) | (with_reducible assumption) | (with_reducible refine Below.trans ?_ (Below.mono (by assumption) (by first | omega | (simp; done) | (simp; omega) | (simp at *; omega)))))))⟩
set_option maxRecDepth 100000 in
set_option maxHeartbeats 1000000 in
theorem baseNumber_g (S : ByteArray) (w : World) (hl : S.size ≤ 1000) (z : 0 < S.size) (c0 : Nat) (hc : S[0].toNat = c0) (h0 : S.size ≤ 4) (h1 : 1 < S.size) (k0 : c0 = 48) :
    Calls Tryd.prog 21 #[.string S, .int .i64 4] w fun e w' => NumRes e ∧ Below w.heap.size w w' := by
  subst k0
  have d3 : ¬ S.size = 0 := by omega
  have d4 : ((S.size : Int) == 0) = false := by rw [beq_eq_false_iff_ne]; omega
  go_enter Tryd.func21, Tryd.ntmps21
  go_wp2
  go_ret2
  exact ⟨⟨0, false, rfl⟩, (by (repeat (first | (with_reducible refine Below.drew ?_) | (with_reducible refine below_drewN ?_ _) | (with_reducible refine Below.alloc ?_ (by first | omega | (simp; done) | (simp; omega) | (simp at *; omega)) _) | (with_reducible refine Below.setCell ?_ (by first | omega | (simp; done) | (simp; omega) | (simp at *; omega)) _) | (with_reducible exact Below.refl _ _) | (with_reducible assumption) | (with_reducible refine Below.trans ?_ (Below.mono (by assumption) (by first | omega | (simp; done) | (simp; omega) | (simp at *; omega)))))))⟩
set_option maxRecDepth 100000 in
set_option maxHeartbeats 1000000 in
theorem baseNumber_x (S : ByteArray) (w : World) (hl : S.size ≤ 1000) (z : 0 < S.size) (c0 : Nat) (hc : S[0].toNat = c0) (hD : Hid (∀ j, (hj : j < S.size) → 48 ≤ S[j].toNat ∧ S[j].toNat ≤ 57)) (h0 : S.size ≤ 4) (k0 : ¬ c0 = 45) (k1 : ¬ c0 = 48) :
    Calls Tryd.prog 21 #[.string S, .int .i64 4] w fun e w' => e = .returned (.tuple #[.int .i64 (valD S.data.toList), .bool true]) ∧ Below w.heap.size w w' := by
  have d1 : ((c0 : Int) == 45) = false := by simp; omega
  have d2 : ¬ (c0 : Int) = 45 := by omega
  have d3 : ¬ S.size = 0 := by omega
  have d4 : ((S.size : Int) == 0) = false := by rw [beq_eq_false_iff_ne]; omega
  have d5 : ((c0 : Int) == 48) = false := by simp; omega
  have d6 : ¬ (c0 : Int) = 48 := by omega
  go_enter Tryd.func21, Tryd.ntmps21
  go_wp2
  go_loopw [7, 8] (fun x i wr => ∃ (k : Nat) (v : Int), i = .int .i64 k ∧ x = .int .i64 v ∧ k ≤ S.size ∧ Hid (v = valD (S.data.toList.take k) ∧ 0 ≤ v ∧ v < 10 ^ k) ∧ Below w.heap.size w wr) (fun _ i _ => S.size - (intOf i).toNat)
  case atStart => exact ⟨0, 0, rfl, rfl, by omega, ⟨rfl, by omega, by omega⟩, (by (repeat (first | (with_reducible refine Below.drew ?_) | (with_reducible refine below_drewN ?_ _) | (with_reducible refine Below.alloc ?_ (by first | omega | (simp; done) | (simp; omega) | (simp at *; omega)) _) | (with_reducible refine Below.setCell ?_ (by first | omega | (simp; done) | (simp; omega) | (simp at *; omega)) _) | (with_reducible exact Below.refl _ _) | (with_reducible assumption) | (with_reducible refine Below.trans ?_ (Below.mono (by assumption) (by first | omega | (simp; done) | (simp; omega) | (simp at *; omega)))))))⟩
  case round =>
    obtain ⟨k, v, rfl, rfl, hk, hv, hB⟩ := hrel
    by_cases hkl : k < S.size
    · obtain ⟨c, hcc⟩ : ∃ c : Nat, S[k].toNat = c := ⟨_, rfl⟩
      have HD : 48 ≤ c ∧ c ≤ 57 := by rw [← hcc]; exact hD.out k hkl
      obtain ⟨hD1, hD2⟩ := HD
      obtain ⟨hv1, hv2, hv3⟩ := hv.out
      have hv4 : v < 10000 := by
        have : (10 : Int) ^ k ≤ 10000 := by
          rcases (show k = 0 ∨ k = 1 ∨ k = 2 ∨ k = 3 by omega) with rfl | rfl | rfl | rfl <;> decide
        omega
      have g2 : ¬ (c : Int) < 48 := by omega
      have g4 : ¬ (57 : Int) < c := by omega
      have g5 : IntKind.u8.wrap ((c : Int) - 48) = (c : Int) - 48 := by unfold IntKind.wrap; simp [IntKind.bits, IntKind.signed]; omega
      have g6 : IntKind.i64.wrap ((c : Int) - 48) = (c : Int) - 48 := IntWalk.i64_in _ (by omega)
      have g7 : IntKind.i64.wrap (10 * v) = 10 * v := IntWalk.i64_in _ (by omega)
      have g8 : IntKind.i64.wrap (10 * v + ((c : Int) - 48)) = 10 * v + ((c : Int) - 48) := IntWalk.i64_in _ (by omega)
      have HV : Hid (10 * v + ((c : Int) - 48) = valD (S.data.toList.take (k + 1)) ∧ 0 ≤ 10 * v + ((c : Int) - 48) ∧ 10 * v + ((c : Int) - 48) < 10 ^ (k + 1)) := by
        refine ⟨?_, by omega, ?_⟩
        · rw [take_snoc S hkl, valD_snoc, ← hv1, hcc]
        · rw [Int.pow_succ]; omega
      clear hv1 hv2 hv3 hv hD1 hD2
      go_wp2
      go_roundw
      case rel => exact ⟨k + 1, _, by go_num, rfl, by omega, HV, (by (repeat (first | (with_reducible refine Below.drew ?_) | (with_reducible refine below_drewN ?_ _) | (with_reducible refine Below.alloc ?_ (by first | omega | (simp; done) | (simp; omega) | (simp at *; omega)) _) | (with_reducible refine Below.setCell ?_ (by first | omega | (simp; done) | (simp; omega) | (simp at *; omega)) _) | (with_reducible exact Below.refl _ _) | (with_reducible assumption) | (with_reducible refine Below.trans ?_ (Below.mono (by assumption) (by first | omega | (simp; done) | (simp; omega) | (simp at *; omega)))))))⟩
      case measure => (simp [intOf]) <;> omega
    · have hkk : k = S.size := by omega
      have HV : Hid (v = valD S.data.toList) := by
        show _ = _
        rw [hv.out.1, hkk]
        congr 1
        exact List.take_of_length_le (by simp)
      clear hv
      go_wp2
      go_ret2
      exact ⟨by rw [← HV.out]; rfl, (by (repeat (first | (with_reducible refine Below.drew ?_) | (with_reducible refine below_drewN ?_ _) | (with_reducible refine Below.alloc ?_ (by first | omega | (simp; done) | (simp; omega) | (simp at *; omega)) _) | (with_reducible refine Below.setCell ?_ (by first | omega | (simp; done) | (simp; omega) | (simp at *; omega)) _) | (with_reducible exact Below.refl _ _) | (with_reducible assumption) | (with_reducible refine Below.trans ?_ (Below.mono (by assumption) (by first | omega | (simp; done) | (simp; omega) | (simp at *; omega)))))))⟩
set_option maxRecDepth 100000 in
set_option maxHeartbeats 1000000 in
theorem baseNumber_y (S : ByteArray) (w : World) (hl : S.size ≤ 1000) (z : 0 < S.size) (c0 : Nat) (hc : S[0].toNat = c0) (hD : Hid (∀ j, (hj : j < S.size) → 48 ≤ S[j].toNat ∧ S[j].toNat ≤ 57)) (h0 : S.size = 1) (k0 : c0 = 48) :
    Calls Tryd.prog 21 #[.string S, .int .i64 4] w fun e w' => e = .returned (.tuple #[.int .i64 (valD S.data.toList), .bool true]) ∧ Below w.heap.size w w' := by
  subst k0
  go_enter Tryd.func21, Tryd.ntmps21
  go_wp2
  go_loopw [7, 8] (fun x i wr => ∃ (k : Nat) (v : Int), i = .int .i64 k ∧ x = .int .i64 v ∧ k ≤ S.size ∧ Hid (v = valD (S.data.toList.take k) ∧ 0 ≤ v ∧ v < 10 ^ k) ∧ Below w.heap.size w wr) (fun _ i _ => S.size - (intOf i).toNat)
  case atStart => exact ⟨0, 0, rfl, rfl, by omega, ⟨rfl, by omega, by omega⟩, (by (repeat (first | (with_reducible refine Below.drew ?_) | (with_reducible refine below_drewN ?_ _) | (with_reducible refine Below.alloc ?_ (by first | omega | (simp; done) | (simp; omega) | (simp at *; omega)) _) | (with_reducible refine Below.setCell ?_ (by first | omega | (simp; done) | (simp; omega) | (simp at *; omega)) _) | (with_reducible exact Below.refl _ _) | (with_reducible assumption) | (with_reducible refine Below.trans ?_ (Below.mono (by assumption) (by first | omega | (simp; done) | (simp; omega) | (simp at *; omega)))))))⟩
  case round =>
    obtain ⟨k, v, rfl, rfl, hk, hv, hB⟩ := hrel
    by_cases hkl : k < S.size
    · obtain ⟨c, hcc⟩ : ∃ c : Nat, S[k].toNat = c := ⟨_, rfl⟩
      have HD : 48 ≤ c ∧ c ≤ 57 := by rw [← hcc]; exact hD.out k hkl
      obtain ⟨hD1, hD2⟩ := HD
      obtain ⟨hv1, hv2, hv3⟩ := hv.out
      have hv4 : v < 10000 := by
        have : (10 : Int) ^ k ≤ 10000 := by
          rcases (show k = 0 ∨ k = 1 ∨ k = 2 ∨ k = 3 by omega) with rfl | rfl | rfl | rfl <;> decide
        omega
      have g2 : ¬ (c : Int) < 48 := by omega
      have g4 : ¬ (57 : Int) < c := by omega
      have g5 : IntKind.u8.wrap ((c : Int) - 48) = (c : Int) - 48 := by unfold IntKind.wrap; simp [IntKind.bits, IntKind.signed]; omega
      have g6 : IntKind.i64.wrap ((c : Int) - 48) = (c : Int) - 48 := IntWalk.i64_in _ (by omega)
      have g7 : IntKind.i64.wrap (10 * v) = 10 * v := IntWalk.i64_in _ (by omega)
      have g8 : IntKind.i64.wrap (10 * v + ((c : Int) - 48)) = 10 * v + ((c : Int) - 48) := IntWalk.i64_in _ (by omega)
      have HV : Hid (10 * v + ((c : Int) - 48) = valD (S.data.toList.take (k + 1)) ∧ 0 ≤ 10 * v + ((c : Int) - 48) ∧ 10 * v + ((c : Int) - 48) < 10 ^ (k + 1)) := by
        refine ⟨?_, by omega, ?_⟩
        · rw [take_snoc S hkl, valD_snoc, ← hv1, hcc]
        · rw [Int.pow_succ]; omega
      clear hv1 hv2 hv3 hv hD1 hD2
      go_wp2
      go_roundw
      case rel => exact ⟨k + 1, _, by go_num, rfl, by omega, HV, (by (repeat (first | (with_reducible refine Below.drew ?_) | (with_reducible refine below_drewN ?_ _) | (with_reducible refine Below.alloc ?_ (by first | omega | (simp; done) | (simp; omega) | (simp at *; omega)) _) | (with_reducible refine Below.setCell ?_ (by first | omega | (simp; done) | (simp; omega) | (simp at *; omega)) _) | (with_reducible exact Below.refl _ _) | (with_reducible assumption) | (with_reducible refine Below.trans ?_ (Below.mono (by assumption) (by first | omega | (simp; done) | (simp; omega) | (simp at *; omega)))))))⟩
      case measure => (simp [intOf]) <;> omega
    · have hkk : k = S.size := by omega
      have HV : Hid (v = valD S.data.toList) := by
        show _ = _
        rw [hv.out.1, hkk]
        congr 1
        exact List.take_of_length_le (by simp)
      clear hv
      go_wp2
      go_ret2
      exact ⟨by rw [← HV.out]; rfl, (by (repeat (first | (with_reducible refine Below.drew ?_) | (with_reducible refine below_drewN ?_ _) | (with_reducible refine Below.alloc ?_ (by first | omega | (simp; done) | (simp; omega) | (simp at *; omega)) _) | (with_reducible refine Below.setCell ?_ (by first | omega | (simp; done) | (simp; omega) | (simp at *; omega)) _) | (with_reducible exact Below.refl _ _) | (with_reducible assumption) | (with_reducible refine Below.trans ?_ (Below.mono (by assumption) (by first | omega | (simp; done) | (simp; omega) | (simp at *; omega)))))))⟩
set_option maxRecDepth 100000 in
set_option maxHeartbeats 1000000 in
theorem baseNumber_h (S : ByteArray) (w : World) (hl : S.size ≤ 1000) (z : 0 < S.size) (c0 : Nat) (hc : S[0].toNat = c0) (h0 : S.size ≤ 4) (k0 : ¬ c0 = 45) (k1 : ¬ c0 = 48) :
    Calls Tryd.prog 21 #[.string S, .int .i64 4] w fun e w' => NumRes e ∧ Below w.heap.size w w' := by
  have d1 : ((c0 : Int) == 45) = false := by simp; omega
  have d2 : ¬ (c0 : Int) = 45 := by omega
  have d3 : ¬ S.size = 0 := by omega
  have d4 : ((S.size : Int) == 0) = false := by rw [beq_eq_false_iff_ne]; omega
  have d5 : ((c0 : Int) == 48) = false := by simp; omega
  have d6 : ¬ (c0 : Int) = 48 := by omega
  go_enter Tryd.func21, Tryd.ntmps21
  go_wp2
  go_loopw [7, 8] (fun x i wr => ∃ (k : Nat) (v : Int), i = .int .i64 k ∧ x = .int .i64 v ∧ k ≤ S.size ∧ Below w.heap.size w wr) (fun _ i _ => S.size - (intOf i).toNat)
  case atStart => exact ⟨0, 0, rfl, rfl, by omega, (by (repeat (first | (with_reducible refine Below.drew ?_) | (with_reducible refine below_drewN ?_ _) | (with_reducible refine Below.alloc ?_ (by first | omega | (simp; done) | (simp; omega) | (simp at *; omega)) _) | (with_reducible refine Below.setCell ?_ (by first | omega | (simp; done) | (simp; omega) | (simp at *; omega)) _) | (with_reducible exact Below.refl _ _) | (with_reducible assumption) | (with_reducible refine Below.trans ?_ (Below.mono (by assumption) (by first | omega | (simp; done) | (simp; omega) | (simp at *; omega)))))))⟩
  case round =>
    obtain ⟨k, v, rfl, rfl, hk, hB⟩ := hrel
    by_cases hkl : k < S.size
    · obtain ⟨c, hcc⟩ : ∃ c : Nat, S[k].toNat = c := ⟨_, rfl⟩
      by_cases g1 : c < 48
      · have g2 : (c : Int) < 48 := by omega
        go_wp2
        go_ret2
        exact ⟨⟨0, false, rfl⟩, (by (repeat (first | (with_reducible refine Below.drew ?_) | (with_reducible refine below_drewN ?_ _) | (with_reducible refine Below.alloc ?_ (by first | omega | (simp; done) | (simp; omega) | (simp at *; omega)) _) | (with_reducible refine Below.setCell ?_ (by first | omega | (simp; done) | (simp; omega) | (simp at *; omega)) _) | (with_reducible exact Below.refl _ _) | (with_reducible assumption) | (with_reducible refine Below.trans ?_ (Below.mono (by assumption) (by first | omega | (simp; done) | (simp; omega) | (simp at *; omega)))))))⟩
      · by_cases g3 : 57 < c
        · have g2 : ¬ (c : Int) < 48 := by omega
          have g4 : (57 : Int) < c := by omega
          go_wp2
          go_ret2
          exact ⟨⟨0, false, rfl⟩, (by (repeat (first | (with_reducible refine Below.drew ?_) | (with_reducible refine below_drewN ?_ _) | (with_reducible refine Below.alloc ?_ (by first | omega | (simp; done) | (simp; omega) | (simp at *; omega)) _) | (with_reducible refine Below.setCell ?_ (by first | omega | (simp; done) | (simp; omega) | (simp at *; omega)) _) | (with_reducible exact Below.refl _ _) | (with_reducible assumption) | (with_reducible refine Below.trans ?_ (Below.mono (by assumption) (by first | omega | (simp; done) | (simp; omega) | (simp at *; omega)))))))⟩
        · have g2 : ¬ (c : Int) < 48 := by omega
          have g4 : ¬ (57 : Int) < c := by omega
          have g5 : IntKind.u8.wrap ((c : Int) - 48) = (c : Int) - 48 := by unfold IntKind.wrap; simp [IntKind.bits, IntKind.signed]; omega
          have g6 : IntKind.i64.wrap ((c : Int) - 48) = (c : Int) - 48 := IntWalk.i64_in _ (by omega)
          go_wp2
          go_roundw
          case rel => exact ⟨k + 1, _, by go_num, rfl, by omega, (by (repeat (first | (with_reducible refine Below.drew ?_) | (with_reducible refine below_drewN ?_ _) | (with_reducible refine Below.alloc ?_ (by first | omega | (simp; done) | (simp; omega) | (simp at *; omega)) _) | (with_reducible refine Below.setCell ?_ (by first | omega | (simp; done) | (simp; omega) | (simp at *; omega)) _) | (with_reducible exact Below.refl _ _) | (with_reducible assumption) | (with_reducible refine Below.trans ?_ (Below.mono (by assumption) (by first | omega | (simp; done) | (simp; omega) | (simp at *; omega)))))))⟩
          case measure => (simp [intOf]) <;> omega
    · have hkk : k = S.size := by omega
      go_wp2
      go_ret2
      exact ⟨⟨_, true, rfl⟩, (by (repeat (first | (with_reducible refine Below.drew ?_) | (with_reducible refine below_drewN ?_ _) | (with_reducible refine Below.alloc ?_ (by first | omega | (simp; done) | (simp; omega) | (simp at *; omega)) _) | (with_reducible refine Below.setCell ?_ (by first | omega | (simp; done) | (simp; omega) | (simp at *; omega)) _) | (with_reducible exact Below.refl _ _) | (with_reducible assumption) | (with_reducible refine Below.trans ?_ (Below.mono (by assumption) (by first | omega | (simp; done) | (simp; omega) | (simp at *; omega)))))))⟩
set_option maxRecDepth 100000 in
set_option maxHeartbeats 1000000 in
theorem baseNumber_i (S : ByteArray) (w : World) (hl : S.size ≤ 1000) (z : 0 < S.size) (c0 : Nat) (hc : S[0].toNat = c0) (h0 : S.size = 1) (k0 : c0 = 48) :
    Calls Tryd.prog 21 #[.string S, .int .i64 4] w fun e w' => NumRes e ∧ Below w.heap.size w w' := by
  subst k0
  go_enter Tryd.func21, Tryd.ntmps21
  go_wp2
  go_loopw [7, 8] (fun x i wr => ∃ (k : Nat) (v : Int), i = .int .i64 k ∧ x = .int .i64 v ∧ k ≤ S.size ∧ Below w.heap.size w wr) (fun _ i _ => S.size - (intOf i).toNat)
  case atStart => exact ⟨0, 0, rfl, rfl, by omega, (by (repeat (first | (with_reducible refine Below.drew ?_) | (with_reducible refine below_drewN ?_ _) | (with_reducible refine Below.alloc ?_ (by first | omega | (simp; done) | (simp; omega) | (simp at *; omega)) _) | (with_reducible refine Below.setCell ?_ (by first | omega | (simp; done) | (simp; omega) | (simp at *; omega)) _) | (with_reducible exact Below.refl _ _) | (with_reducible assumption) | (with_reducible refine Below.trans ?_ (Below.mono (by assumption) (by first | omega | (simp; done) | (simp; omega) | (simp at *; omega)))))))⟩
  case round =>
    obtain ⟨k, v, rfl, rfl, hk, hB⟩ := hrel
    by_cases hkl : k < S.size
    · obtain ⟨c, hcc⟩ : ∃ c : Nat, S[k].toNat = c := ⟨_, rfl⟩
      by_cases g1 : c < 48
      · have g2 : (c : Int) < 48 := by omega
        go_wp2
        go_ret2
        exact ⟨⟨0, false, rfl⟩, (by (repeat (first | (with_reducible refine Below.drew ?_) | (with_reducible refine below_drewN ?_ _) | (with_reducible refine Below.alloc ?_ (by first | omega | (simp; done) | (simp; omega) | (simp at *; omega)) _) | (with_reducible refine Below.setCell ?_ (by first | omega | (simp; done) | (simp; omega) | (simp at *; omega)) _) | (with_reducible exact Below.refl _ _) | (with_reducible assumption) | (with_reducible refine Below.trans ?_ (Below.mono (by assumption) (by first | omega | (simp; done) | (simp; omega) | (simp at *; omega)))))))⟩
      · by_cases g3 : 57 < c
        · have g2 : ¬ (c : Int) < 48 := by omega
          have g4 : (57 : Int) < c := by omega
          go_wp2
          go_ret2
          exact ⟨⟨0, false, rfl⟩, (by (repeat (first | (with_reducible refine Below.drew ?_) | (with_reducible refine below_drewN ?_ _) | (with_reducible refine Below.alloc ?_ (by first | omega | (simp; done) | (simp; omega) | (simp at *; omega)) _) | (with_reducible refine Below.setCell ?_ (by first | omega | (simp; done) | (simp; omega) | (simp at *; omega)) _) | (with_reducible exact Below.refl _ _) | (with_reducible assumption) | (with_reducible refine Below.trans ?_ (Below.mono (by assumption) (by first | omega | (simp; done) | (simp; omega) | (simp at *; omega)))))))⟩
        · have g2 : ¬ (c : Int) < 48 := by omega
          have g4 : ¬ (57 : Int) < c := by omega
          have g5 : IntKind.u8.wrap ((c : Int) - 48) = (c : Int) - 48 := by unfold IntKind.wrap; simp [IntKind.bits, IntKind.signed]; omega
          have g6 : IntKind.i64.wrap ((c : Int) - 48) = (c : Int) - 48 := IntWalk.i64_in _ (by omega)
          go_wp2
          go_roundw
          case rel => exact ⟨k + 1, _, by go_num, rfl, by omega, (by (repeat (first | (with_reducible refine Below.drew ?_) | (with_reducible refine below_drewN ?_ _) | (with_reducible refine Below.alloc ?_ (by first | omega | (simp; done) | (simp; omega) | (simp at *; omega)) _) | (with_reducible refine Below.setCell ?_ (by first | omega | (simp; done) | (simp; omega) | (simp at *; omega)) _) | (with_reducible exact Below.refl _ _) | (with_reducible assumption) | (with_reducible refine Below.trans ?_ (Below.mono (by assumption) (by first | omega | (simp; done) | (simp; omega) | (simp at *; omega)))))))⟩
          case measure => (simp [intOf]) <;> omega
    · have hkk : k = S.size := by omega
      go_wp2
      go_ret2
      exact ⟨⟨_, true, rfl⟩, (by (repeat (first | (with_reducible refine Below.drew ?_) | (with_reducible refine below_drewN ?_ _) | (with_reducible refine Below.alloc ?_ (by first | omega | (simp; done) | (simp; omega) | (simp at *; omega)) _) | (with_reducible refine Below.setCell ?_ (by first | omega | (simp; done) | (simp; omega) | (simp at *; omega)) _) | (with_reducible exact Below.refl _ _) | (with_reducible assumption) | (with_reducible refine Below.trans ?_ (Below.mono (by assumption) (by first | omega | (simp; done) | (simp; omega) | (simp at *; omega)))))))⟩
theorem baseNumber_ex (S : ByteArray) (w : World) (hl : S.size ≤ 1000) :
    Calls Tryd.prog 21 #[.string S, .int .i64 4] w fun e w' => NumRes e ∧ Below w.heap.size w w' := by
  by_cases h0 : S.size = 0
  · exact baseNumber_a S w hl h0
  have z : 0 < S.size := by omega
  by_cases k0 : S[0].toNat = 45
  · by_cases h1 : S.size = 1
    · exact baseNumber_b S w hl z _ rfl h1 k0
    · by_cases h2 : 5 < S.size
      · exact baseNumber_c S w hl z _ rfl h2 k0
      · have z1 : 1 < S.size := by omega
        by_cases k1 : S[1].toNat = 48
        · exact baseNumber_d S w hl z _ rfl z1 (by omega) k0 _ rfl k1
        · exact baseNumber_e S w hl z _ rfl z1 (by omega) k0 _ rfl k1
  · by_cases h2 : 4 < S.size
    · exact baseNumber_f S w hl z _ rfl h2 k0
    · by_cases k1 : S[0].toNat = 48
      · by_cases h1 : S.size = 1
        · exact baseNumber_i S w hl z _ rfl h1 k1
        · exact baseNumber_g S w hl z _ rfl (by omega) (by omega) k1
      · exact baseNumber_h S w hl z _ rfl (by omega) k0 k1
end Go.Proofs.YtpagbkbaphjmdaaDoor
