import Derived.Test.YtgidmmmdpmophaaRSFEData
import Derived.Test.YtgidmmmdpmophaaRSFFName
import Derived.Deep.DrawnRows
import Derived.Outline
namespace Go.Proofs.Ytgidmmmdpmophaa
open Go.ChangeShapes Go.WideShapes Go.ChangeAt Go.RowKit
set_option linter.unusedVariables false
set_option linter.unusedSimpArgs false
attribute [local go_sem ↓] Go.wp_at_zero Go.wp_at_succ
theorem pWithin_any (n a b : Int) (w : World) : Calls Try.prog 55 #[.int .i64 n, .int .i64 a, .int .i64 b] w fun e w' => e = .returned (.bool (inB n a b)) ∧ w = w' := by
  by_cases h1 : a ≤ n
  · by_cases h2 : n ≤ b
    · have h3 := inB_true h1 h2
      go_enter Try.func55, Try.ntmps55
      go_wp2
      go_ret
      exact ⟨by first | rfl | exact ret_bool h3.symm, rfl⟩
    · have h3 := inB_f2 (a := a) h2
      go_enter Try.func55, Try.ntmps55
      go_wp2
      go_ret
      exact ⟨by first | rfl | exact ret_bool h3.symm, rfl⟩
  · have h3 := inB_f1 (b := b) h1
    go_enter Try.func55, Try.ntmps55
    go_wp2
    go_ret
    exact ⟨by first | rfl | exact ret_bool h3.symm, rfl⟩
theorem pWithin_is (n a b : Int) (x : Bool) (w : World) (h : Hid (inB n a b = x)) : Calls Try.prog 55 #[.int .i64 n, .int .i64 a, .int .i64 b] w fun e w' => e = .returned (.bool x) ∧ w = w' := by
  rw [← h.out]; exact pWithin_any n a b w
theorem pIsDepth_is (n : Int) (x : Bool) (w : World) (h : Hid (inB n 0 30000 = x)) : Calls Try.prog 80 #[.int .i64 n] w fun e w' => e = .returned (.bool x) ∧ w = w' := by
  go_enter Try.func80, Try.ntmps80
  go_wp2_with ((go_at_call 55; ((with_reducible refine (pWithin_is _ _ _ _ _ h).mono ?_)); rintro e w' ⟨rfl, rfl⟩))
  go_ret
  exact ⟨rfl, rfl⟩
theorem pIsLetter_any (c : Int) (w : World) : Calls Try.prog 77 #[.int .u8 c] w fun e w' => e = .returned (.bool (letB c)) ∧ w = w' := by
  go_enter Try.func77, Try.ntmps77
  go_wp2
  all_goals
    go_ret
    exact ⟨ret_bool (by unfold letB; first | rfl | (rw [Bool.eq_iff_iff]; simp; omega)), rfl⟩
theorem pIsDigit_any (c : Int) (w : World) : Calls Try.prog 78 #[.int .u8 c] w fun e w' => e = .returned (.bool (digB c)) ∧ w = w' := by
  go_enter Try.func78, Try.ntmps78
  go_wp2
  all_goals
    go_ret
    exact ⟨ret_bool (by unfold digB; first | rfl | (rw [Bool.eq_iff_iff]; simp; omega)), rfl⟩
theorem pIsLetter_is (c : Int) (x : Bool) (w : World) (h : Hid (letB c = x)) : Calls Try.prog 77 #[.int .u8 c] w fun e w' => e = .returned (.bool x) ∧ w = w' := by
  rw [← h.out]; exact pIsLetter_any c w
theorem pIsDigit_is (c : Int) (x : Bool) (w : World) (h : Hid (digB c = x)) : Calls Try.prog 78 #[.int .u8 c] w fun e w' => e = .returned (.bool x) ∧ w = w' := by
  rw [← h.out]; exact pIsDigit_any c w
set_option maxRecDepth 100000 in
set_option maxHeartbeats 1000000 in
theorem pIsName_any (s : ByteArray) (B : Bool) (w : World) (hs : s.size ≤ 9223372036854775807) (hB : Hid (nameB s = B)) : Calls Try.prog 73 #[.string s] w fun e w' => e = .returned (.bool B) ∧ Below w.heap.size w w' := by
  have hb := hB.out
  unfold nameB at hb
  clear hB
  by_cases h1 : 1 ≤ s.size ∧ s.size ≤ 12
  · have hi : Hid (inB (s.size : Int) 1 12 = true) := Lib.hid (inB_true (by omega) (by omega))
    have hz : 0 < s.size := by omega
    have hz2 : (0 : Int) < (s.size : Int) := by omega
    obtain ⟨c0, hc⟩ : ∃ c : Nat, s[0].toNat = c := ⟨_, rfl⟩
    have hb0 : byt s 0 = (c0 : Int) := by rw [byt_at hz, hc]
    rw [hb0] at hb
    cases hl : letB (c0 : Int) with
    | true =>
      have hb2 : Hid (nmAll s = B) := Lib.hid (by rw [← hb, hl]; simp [h1])
      have hcv : ∀ w : World, (convert 9 128 (.string s)).run Try.prog w = .ok (.slice (some ⟨w.heap.size, 0, none⟩) s.size (grownCap w s.size 0 5)) (Lib.bytesWorld w 5 s) := fun w => Lib.run_convert_string_bytes (P := Try.prog) w 9 128 5 s (u := .string) Try.underlying9 Try.underlying128 Try.underlying5
      have HL : Hid (letB (c0 : Int) = true) := Lib.hid hl
      have hBB : Hid (Below w.heap.size w (Lib.bytesWorld w 5 s)) := Lib.hid (Joins.below_bytesWorld _ _ _ _ (Nat.le_refl _))
      have HC : Hid (∀ j, j < s.size → (Lib.bytesWorld w 5 s).cell? ⟨w.heap.size, j, none⟩ = some (.int .u8 (byt s j))) := Lib.hid fun j hj => Lib.bytesWorld_cell _ _ _ j hj
      clear hb hl
      go_enter Try.func73, Try.ntmps73
      go_wp2_with (first | (go_at_call 55; ((with_reducible refine (pWithin_is _ _ _ _ _ hi).mono ?_)); rintro e w' ⟨rfl, rfl⟩) | (go_at_call 77; ((with_reducible refine (pIsLetter_is _ _ _ HL).mono ?_)); rintro e w' ⟨rfl, rfl⟩))
      go_loop [18] (fun i => ∃ k : Nat, k ≤ s.size ∧ i = .int .i64 k ∧ Hid (∀ j, j < k → nmcB (byt s j) = true)) (fun i => s.size - (intOf i).toNat)
      case atStart => exact ⟨0, by omega, rfl, fun j hj => by omega⟩
      case round =>
        obtain ⟨k, hk, rfl, hz'⟩ := hrel
        by_cases hkn : k < s.size
        · have kn : (k : Int) < (s.size : Int) := by omega
          have hck := HC.out k hkn
          obtain ⟨c, hcc⟩ : ∃ c : Int, Hid (byt s k = c) := ⟨_, Lib.hid rfl⟩
          rw [hcc.out] at hck
          have hgood : Hid (nmcB c = true → ∀ j, j < k + 1 → nmcB (byt s j) = true) := Lib.hid fun h j hj => by
            by_cases e : j = k
            · rw [e, hcc.out]; exact h
            · exact hz'.out j (by omega)
          clear hz'
          cases hl : letB c with
          | true =>
            have HL2 := Lib.hid hl
            have hn : Hid (nmcB c = true) := Lib.hid (by unfold nmcB; rw [hl]; simp)
            clear hl
            go_wp2_with ((go_at_call 77; ((with_reducible refine (pIsLetter_is _ _ _ HL2).mono ?_)); rintro e w' ⟨rfl, rfl⟩))
            go_round
            case rel => exact ⟨k + 1, by omega, by go_num, Lib.hid (hgood.out hn.out)⟩
            case measure => (simp [intOf]; omega)
          | false =>
            have HL2 := Lib.hid hl
            cases hd : digB c with
            | true =>
              have HD2 := Lib.hid hd
              have hn : Hid (nmcB c = true) := Lib.hid (by unfold nmcB; rw [hd]; simp)
              clear hl hd
              go_wp2_with (first | (go_at_call 77; ((with_reducible refine (pIsLetter_is _ _ _ HL2).mono ?_)); rintro e w' ⟨rfl, rfl⟩) | (go_at_call 78; ((with_reducible refine (pIsDigit_is _ _ _ HD2).mono ?_)); rintro e w' ⟨rfl, rfl⟩))
              go_round
              case rel => exact ⟨k + 1, by omega, by go_num, Lib.hid (hgood.out hn.out)⟩
              case measure => (simp [intOf]; omega)
            | false =>
              have HD2 := Lib.hid hd
              by_cases h45 : c = 45
              · have hn : Hid (nmcB c = true) := Lib.hid (by unfold nmcB; rw [h45]; simp)
                have e45 : (c != 45) = false := by simpa using h45
                clear hl hd h45
                go_wp2_with (first | (go_at_call 77; ((with_reducible refine (pIsLetter_is _ _ _ HL2).mono ?_)); rintro e w' ⟨rfl, rfl⟩) | (go_at_call 78; ((with_reducible refine (pIsDigit_is _ _ _ HD2).mono ?_)); rintro e w' ⟨rfl, rfl⟩))
                go_round
                case rel => exact ⟨k + 1, by omega, by go_num, Lib.hid (hgood.out hn.out)⟩
                case measure => (simp [intOf]; omega)
              · have e45 : (c != 45) = true := by simpa using h45
                have hr : Hid (B = false) := Lib.hid (by rw [← hb2.out, nmAll_f hkn (by rw [hcc.out]; unfold nmcB; rw [hl, hd]; simpa using h45)])
                clear hl hd
                go_wp2_with (first | (go_at_call 77; ((with_reducible refine (pIsLetter_is _ _ _ HL2).mono ?_)); rintro e w' ⟨rfl, rfl⟩) | (go_at_call 78; ((with_reducible refine (pIsDigit_is _ _ _ HD2).mono ?_)); rintro e w' ⟨rfl, rfl⟩))
                go_ret
                exact ⟨ret_bool hr.out.symm, hBB.out⟩
        · have kn : ¬ (k : Int) < (s.size : Int) := by omega
          have hr : Hid (B = true) := Lib.hid (by rw [← hb2.out, nmAll_t (fun j hj => hz'.out j (by omega))])
          clear hz'
          go_wp2
          go_ret
          exact ⟨ret_bool hr.out.symm, hBB.out⟩
    | false =>
      have hr : Hid (B = false) := Lib.hid (by rw [← hb, hl]; simp)
      have HL := Lib.hid hl
      clear hb hl
      go_enter Try.func73, Try.ntmps73
      go_wp2_with (first | (go_at_call 55; ((with_reducible refine (pWithin_is _ _ _ _ _ hi).mono ?_)); rintro e w' ⟨rfl, rfl⟩) | (go_at_call 77; ((with_reducible refine (pIsLetter_is _ _ _ HL).mono ?_)); rintro e w' ⟨rfl, rfl⟩))
      go_ret
      exact ⟨ret_bool hr.out.symm, Below.refl _ _⟩
  · have hi : Hid (inB (s.size : Int) 1 12 = false) := Lib.hid (inB_not.2 (by omega))
    have hr : Hid (B = false) := Lib.hid (by rw [← hb]; simp [h1])
    clear hb h1
    go_enter Try.func73, Try.ntmps73
    go_wp2_with ((go_at_call 55; ((with_reducible refine (pWithin_is _ _ _ _ _ hi).mono ?_)); rintro e w' ⟨rfl, rfl⟩))
    go_ret
    exact ⟨ret_bool hr.out.symm, Below.refl _ _⟩
end Go.Proofs.Ytgidmmmdpmophaa
