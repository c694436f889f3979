/- What the base's decimal text of a number returns. -/
import Derived.Test.YtpagbkbaphjmdaaDoorItoa
import Derived.Laws.BytesArg
import Derived.Outline
namespace Go.Proofs.YtpagbkbaphjmdaaDoor
open Go.ChangeShapes Go.WideShapes Go.ChangeAt Go.RowKit
set_option linter.unusedVariables false
set_option linter.unusedSimpArgs false

theorem decDigits_step {k : Nat} (hk : 0 < k) (acc : List UInt8) : Lib.decDigits k ++ acc = (if k / 10 = 0 then [] else Lib.decDigits (k / 10)) ++ UInt8.ofNat (48 + k % 10) :: acc := by
  by_cases h : k < 10
  · rw [Lib.decDigits_one h, if_pos (by omega), Nat.mod_eq_of_lt h]; rfl
  · rw [Lib.decDigits, dif_neg h, if_neg (by omega)]; simp
def decOr (k : Nat) : List UInt8 := if k = 0 then [] else Lib.decDigits k
theorem decOr_step {k : Nat} (hk : 0 < k) (acc : List UInt8) : decOr k ++ acc = decOr (k / 10) ++ UInt8.ofNat (48 + k % 10) :: acc := by
  unfold decOr
  rw [if_neg (by omega)]
  exact decDigits_step hk acc
theorem bappB (a b : Array UInt8) : (⟨a⟩ : ByteArray) ++ ⟨b⟩ = ⟨a ++ b⟩ := by
  apply ByteArray.ext; simp
theorem convOne (d : Nat) (hd : d < 10) (w : World) : (convert 85 9 (.slice (some ⟨w.heap.size, 0, none⟩) 1 1)).run Tryd.prog (w.alloc (.cells #[.int .u8 (48 + (d : Int))] 5)) = .ok (.string ⟨#[UInt8.ofNat (48 + d)]⟩) (w.alloc (.cells #[.int .u8 (48 + (d : Int))] 5)) := by
  have h := run_convert_bytes_arg (P := Tryd.prog) (w.alloc (.cells #[.int .u8 (48 + (d : Int))] 5)) 85 5 Tryd.underlying85 Tryd.underlying5 w.heap.size 0 1 1 [48 + (d : Int)] rfl (by
    intro i hi
    obtain rfl : i = 0 := by omega
    simp [go_sem]) 9 Tryd.underlying9
  rw [h]
  have : (48 + (d : Int)).toNat = 48 + d := by omega
  simp [strOfNums, this]
theorem baseSize_d (n : Int) (w : World) (h0 : 0 ≤ n) (h1 : n ≤ 1000) :
    Calls Tryd.prog 39 #[.int .i64 n] w fun e w' => e = .returned (.int .i64 n) ∧ w = w' := by
  have e1 : IntKind.i64.wrap (-n) = -n := IntWalk.i64_in _ (by omega)
  have d1 : ¬ n < -n := by omega
  have d2 : decide (n < -n) = false := by simpa using d1
  have d3 : -n ≤ n := by omega
  go_enter Tryd.func39, Tryd.ntmps39
  go_wp2
  go_ret
  exact ⟨by first | rfl | (simp; omega), rfl⟩
set_option maxRecDepth 100000 in
set_option maxHeartbeats 1000000 in
theorem baseDecimal_any (n : Nat) (w : World) (h1 : n < 10000000000) :
    Calls Tryd.prog 24 #[.int .i64 n] w fun e w' => e = .returned (.string ⟨(Lib.decDigits n).toArray⟩) ∧ Below w.heap.size w w' := by
  by_cases hn : n = 0
  · subst hn
    have hd : Lib.decDigits 0 = [48] := Lib.decDigits_one (by decide)
    rw [hd]
    go_enter Tryd.func24, Tryd.ntmps24
    go_wp2
    go_ret
    exact ⟨rfl, (by (repeat (first | (with_reducible refine Below.drew ?_) | (with_reducible refine below_drewN ?_ _) | (with_reducible refine Below.alloc ?_ (by first | omega | (simp; done) | (simp; omega) | (simp at *; omega)) _) | (with_reducible refine Below.setCell ?_ (by first | omega | (simp; done) | (simp; omega) | (simp at *; omega)) _) | (with_reducible exact Below.refl _ _) | (with_reducible assumption) | (with_reducible refine Below.trans ?_ (Below.mono (by assumption) (by first | omega | (simp; done) | (simp; omega) | (simp at *; omega)))))))⟩
  · have hn1 : (1 : Int) ≤ n := by omega
    have hn2 : ((n : Int) == 0) = false := by simp; omega
    have hR : Hid (Lib.decDigits n = decOr n ++ []) := by show _ = _; unfold decOr; rw [if_neg hn]; simp
    obtain ⟨R, HR⟩ : ∃ R, Hid (Lib.decDigits n = R) := ⟨_, rfl⟩
    rw [HR.out] at hR ⊢
    go_enter Tryd.func24, Tryd.ntmps24
    go_wp2
    go_loopw [0, 3] (fun x s wr => ∃ (k m : Nat) (acc : List UInt8), x = .int .i64 k ∧ s = .string ⟨acc.toArray⟩ ∧ k < 10 ^ m ∧ acc.length + m ≤ 10 ∧ Hid (R = decOr k ++ acc) ∧ Below w.heap.size w wr) (fun x _ _ => (intOf x).toNat)
    case atStart => exact ⟨n, 10, [], rfl, rfl, by omega, by simp, hR, (by (repeat (first | (with_reducible refine Below.drew ?_) | (with_reducible refine below_drewN ?_ _) | (with_reducible refine Below.alloc ?_ (by first | omega | (simp; done) | (simp; omega) | (simp at *; omega)) _) | (with_reducible refine Below.setCell ?_ (by first | omega | (simp; done) | (simp; omega) | (simp at *; omega)) _) | (with_reducible exact Below.refl _ _) | (with_reducible assumption) | (with_reducible refine Below.trans ?_ (Below.mono (by assumption) (by first | omega | (simp; done) | (simp; omega) | (simp at *; omega)))))))⟩
    case round =>
      obtain ⟨k, m, acc, rfl, rfl, hk, hm, hr, hB⟩ := hrel
      have sz := hB.size
      by_cases hk0 : k = 0
      · subst hk0
        have he : Hid (R = acc) := by show _ = _; rw [hr.out]; rfl
        have z : ¬ 9223372036854775807 < acc.length := by omega
        go_wp2
        go_ret
        exact ⟨by first | (rw [he.out]; rfl) | (rw [he.out]; simp [bappB]; done), (by (repeat (first | (with_reducible refine Below.drew ?_) | (with_reducible refine below_drewN ?_ _) | (with_reducible refine Below.alloc ?_ (by first | omega | (simp; done) | (simp; omega) | (simp at *; omega)) _) | (with_reducible refine Below.setCell ?_ (by first | omega | (simp; done) | (simp; omega) | (simp at *; omega)) _) | (with_reducible exact Below.refl _ _) | (with_reducible assumption) | (with_reducible refine Below.trans ?_ (Below.mono (by assumption) (by first | omega | (simp; done) | (simp; omega) | (simp at *; omega)))))))⟩
      · have k1 : (1 : Int) ≤ k := by omega
        have k2 : ((k : Int) != 0) = true := by simp; omega
        have k3 : ¬ (k : Int) = 0 := by omega
        obtain ⟨m', rfl⟩ : ∃ m', m = m' + 1 := by
          rcases m with _ | m'
          · simp at hk; omega
          · exact ⟨m', rfl⟩
        have hk9 : k < 10 * 10 ^ m' := by rw [Nat.pow_succ] at hk; omega
        have kb : k < 10000000000 := by
          have : (10 : Nat) ^ (m' + 1) ≤ 10 ^ 10 := Nat.pow_le_pow_right (by omega) (by omega)
          omega
        obtain ⟨q, hq⟩ : ∃ q, Hid (k / 10 = q) := ⟨_, rfl⟩
        obtain ⟨d, hd⟩ : ∃ d, Hid (k % 10 = d) := ⟨_, rfl⟩
        have t1 : (k : Int).tmod 10 = (d : Int) := by rw [Int.tmod_eq_emod_of_nonneg (by omega), ← hd.out]; omega
        have t2 : (k : Int).tdiv 10 = (q : Int) := by rw [Int.tdiv_eq_ediv_of_nonneg (by omega), ← hq.out]; omega
        have t3 : (k : Int) % 10 = (d : Int) := by rw [← hd.out]; omega
        have t4 : (k : Int) / 10 = (q : Int) := by rw [← hq.out]; omega
        have d9 : d < 10 := by rw [← hd.out]; omega
        have w1 : IntKind.i64.wrap (d : Int) = d := IntWalk.i64_in _ (by omega)
        have q9 : q < 10000000000 := by rw [← hq.out]; omega
        have w2 : IntKind.i64.wrap (q : Int) = q := IntWalk.i64_in _ (by omega)
        have w3 : IntKind.i64.wrap (48 + (d : Int)) = 48 + d := IntWalk.i64_in _ (by omega)
        have d0 : (0 : Int) ≤ d := by omega
        have d1 : (d : Int) ≤ 1000 := by omega
        have z : ¬ 9223372036854775807 < 1 + acc.length := by omega
        have hr2 : Hid (R = decOr q ++ UInt8.ofNat (48 + d) :: acc) := by show _ = _; rw [hr.out, decOr_step (by omega), hq.out, hd.out]
        have hcv := convOne d d9 wr
        have HK := Lib.hid hk9
        clear hk hk9 kb q9
        go_wp2_with ((go_at_call 39; ((with_reducible refine (baseSize_d _ _ d0 d1).mono ?_)); rintro e w' ⟨rfl, rfl⟩))
        go_roundw
        case rel =>
          refine ⟨q, m', UInt8.ofNat (48 + d) :: acc, rfl, ?_, ?_, ?_, hr2, (by (repeat (first | (with_reducible refine Below.drew ?_) | (with_reducible refine below_drewN ?_ _) | (with_reducible refine Below.alloc ?_ (by first | omega | (simp; done) | (simp; omega) | (simp at *; omega)) _) | (with_reducible refine Below.setCell ?_ (by first | omega | (simp; done) | (simp; omega) | (simp at *; omega)) _) | (with_reducible exact Below.refl _ _) | (with_reducible assumption) | (with_reducible refine Below.trans ?_ (Below.mono (by assumption) (by first | omega | (simp; done) | (simp; omega) | (simp at *; omega)))))))⟩
          · first | rfl | (rw [bappB]; simp; done) | (simp [bappB]; done)
          · rw [← hq.out]; have := HK.out; omega
          · simp; omega
        case measure => (simp [intOf]) <;> omega
end Go.Proofs.YtpagbkbaphjmdaaDoor
