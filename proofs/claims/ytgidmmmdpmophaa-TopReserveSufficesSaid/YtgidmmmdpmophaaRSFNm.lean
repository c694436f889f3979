import Derived.Test.YtgidmmmdpmophaaRSFFName
import Derived.Outline
namespace Go.Proofs.Ytgidmmmdpmophaa
open Go.ChangeShapes Go.WideShapes Go.ChangeAt Go.RowKit
set_option linter.unusedVariables false
set_option linter.unusedSimpArgs false
attribute [local go_sem ↓] Go.wp_at_zero Go.wp_at_succ
set_option maxRecDepth 100000 in
set_option maxHeartbeats 2000000 in
theorem baseIsName_any (s : ByteArray) (B : Bool) (w : World) (hs : s.size ≤ 1000000) (hB : Hid (nameB s = B)) : Calls Try.prog 67 #[.string s] w fun e w' => e = .returned (.bool B) ∧ w = w' := by
  have hb := hB.out
  unfold nameB at hb
  clear hB
  by_cases h0 : s.size < 1
  · have hr : Hid (B = false) := Lib.hid (by rw [← hb]; simp; omega)
    have i0 : (s.size : Int) < 1 := by omega
    have z0 : s.size = 0 := by omega
    clear hb h0
    go_enter Try.func67, Try.ntmps67
    go_wp2
    go_ret
    exact ⟨ret_bool hr.out.symm, rfl⟩
  · have i0 : ¬ (s.size : Int) < 1 := by omega
    by_cases h1 : 12 < s.size
    · have hr : Hid (B = false) := Lib.hid (by rw [← hb]; simp; omega)
      have i1 : (12 : Int) < (s.size : Int) := by omega
      have z1 : ¬ s.size = 0 := by omega
      clear hb h0 h1
      go_enter Try.func67, Try.ntmps67
      go_wp2
      go_ret
      exact ⟨ret_bool hr.out.symm, rfl⟩
    · have i1 : ¬ (12 : Int) < (s.size : Int) := by omega
      have z1 : ¬ s.size = 0 := by omega
      have hb2 : Hid ((letB (byt s 0) && nmAll s) = B) := Lib.hid (by rw [← hb]; simp [show 1 ≤ s.size ∧ s.size ≤ 12 by omega])
      have hsz : s.size ≤ 12 := by omega
      clear hb h0 h1
      go_enter Try.func67, Try.ntmps67
      go_wp2
      go_loop [3] (fun i => ∃ k : Nat, k ≤ s.size ∧ i = .int .i64 k ∧ Hid ((0 < k → letB (byt s 0) = true) ∧ ∀ j, j < k → nmcB (byt s j) = true)) (fun i => s.size - (intOf i).toNat)
      case atStart => exact ⟨0, by omega, rfl, fun h => by omega, fun j hj => by omega⟩
      case round =>
        obtain ⟨k, hk, rfl, hz⟩ := hrel
        by_cases hkn : k < s.size
        · have kn : (k : Int) < (s.size : Int) := by omega
          obtain ⟨c, hcc⟩ : ∃ c : Nat, s[k].toNat = c := ⟨_, rfl⟩
          have hbk : byt s k = (c : Int) := by rw [byt_at hkn, hcc]
          have hb0 : k = 0 → byt s 0 = (c : Int) := fun e => by subst e; exact hbk
          have cases8 : ((97 : Int) ≤ c ∧ (c : Int) ≤ 122) ∨ (¬ (97 : Int) ≤ c ∧ (65 : Int) ≤ c ∧ (c : Int) ≤ 90) ∨ ((97 : Int) ≤ c ∧ ¬ (c : Int) ≤ 122) ∨ (¬ (97 : Int) ≤ c ∧ (65 : Int) ≤ c ∧ ¬ (c : Int) ≤ 90) ∨ (¬ (65 : Int) ≤ c ∧ ¬ (c : Int) = 45 ∧ (c : Int) < 48) ∨ (¬ (65 : Int) ≤ c ∧ ¬ (c : Int) < 48 ∧ (57 : Int) < c) ∨ (¬ (65 : Int) ≤ c ∧ ¬ (c : Int) < 48 ∧ ¬ (57 : Int) < c) ∨ c = 45 := by omega
          rcases cases8 with h | h | h | h | h | h | h | rfl
          · have f0 : (97 : Int) ≤ (c : Int) := by omega
            have f1 : (c : Int) ≤ 122 := by omega
            have hl : letB (c : Int) = true := by unfold letB; simp; omega
            have hm : nmcB (c : Int) = true := by unfold nmcB; rw [hl]; simp
            rcases Nat.eq_zero_or_pos k with rfl | hp
            · have hz2 : Hid ((0 < 0 + 1 → letB (byt s 0) = true) ∧ ∀ j, j < 0 + 1 → nmcB (byt s j) = true) := Lib.hid ⟨fun _ => by rw [hb0 rfl]; exact hl, fun j hj => by obtain rfl : j = 0 := (by omega); rw [hb0 rfl]; exact hm⟩
              clear hz hl hm hb0 hbk hb2
              go_wp2
              go_round
              case rel => exact ⟨0 + 1, by omega, by go_num, hz2⟩
              case measure => (simp [intOf]; omega)
            · have kp : ¬ (k : Int) = 0 := by omega
              have kp2 : ((k : Int) == 0) = false := by simp; omega
              have hz2 : Hid ((0 < k + 1 → letB (byt s 0) = true) ∧ ∀ j, j < k + 1 → nmcB (byt s j) = true) := Lib.hid ⟨fun _ => hz.out.1 hp, fun j hj => by
                  by_cases e : j = k
                  · rw [e, hbk]; exact hm
                  · exact hz.out.2 j (by omega)⟩
              clear hz hl hm hb0 hbk hb2 hp
              go_wp2
              go_round
              case rel => exact ⟨k + 1, by omega, by go_num, hz2⟩
              case measure => (simp [intOf]; omega)
          · have f0 : ¬ (97 : Int) ≤ (c : Int) := by omega
            have f1 : (65 : Int) ≤ (c : Int) := by omega
            have f2 : (c : Int) ≤ 90 := by omega
            have hl : letB (c : Int) = true := by unfold letB; simp; omega
            have hm : nmcB (c : Int) = true := by unfold nmcB; rw [hl]; simp
            rcases Nat.eq_zero_or_pos k with rfl | hp
            · have hz2 : Hid ((0 < 0 + 1 → letB (byt s 0) = true) ∧ ∀ j, j < 0 + 1 → nmcB (byt s j) = true) := Lib.hid ⟨fun _ => by rw [hb0 rfl]; exact hl, fun j hj => by obtain rfl : j = 0 := (by omega); rw [hb0 rfl]; exact hm⟩
              clear hz hl hm hb0 hbk hb2
              go_wp2
              go_round
              case rel => exact ⟨0 + 1, by omega, by go_num, hz2⟩
              case measure => (simp [intOf]; omega)
            · have kp : ¬ (k : Int) = 0 := by omega
              have kp2 : ((k : Int) == 0) = false := by simp; omega
              have hz2 : Hid ((0 < k + 1 → letB (byt s 0) = true) ∧ ∀ j, j < k + 1 → nmcB (byt s j) = true) := Lib.hid ⟨fun _ => hz.out.1 hp, fun j hj => by
                  by_cases e : j = k
                  · rw [e, hbk]; exact hm
                  · exact hz.out.2 j (by omega)⟩
              clear hz hl hm hb0 hbk hb2 hp
              go_wp2
              go_round
              case rel => exact ⟨k + 1, by omega, by go_num, hz2⟩
              case measure => (simp [intOf]; omega)
          · have f0 : (97 : Int) ≤ (c : Int) := by omega
            have f1 : ¬ (c : Int) ≤ 122 := by omega
            have f2 : (65 : Int) ≤ (c : Int) := by omega
            have f3 : ¬ (c : Int) ≤ 90 := by omega
            have f4 : ¬ (c : Int) = 45 := by omega
            have f5 : ¬ (c : Int) < 48 := by omega
            have f6 : (57 : Int) < (c : Int) := by omega
            have fe : ((c : Int) == 45) = false := by simp; omega
            have hl : letB (c : Int) = false := by unfold letB; simp; omega
            have hm : nmcB (c : Int) = false := by unfold nmcB; rw [hl]; unfold digB; simp; omega
            rcases Nat.eq_zero_or_pos k with rfl | hp
            · have hr : Hid (B = false) := Lib.hid (by rw [← hb2.out, hb0 rfl, hl]; rfl)
              clear hz hl hm hb0 hbk hb2
              go_wp2
              go_ret
              exact ⟨ret_bool hr.out.symm, rfl⟩
            · have kp : ¬ (k : Int) = 0 := by omega
              have kp2 : ((k : Int) == 0) = false := by simp; omega
              have hr : Hid (B = false) := Lib.hid (by rw [← hb2.out, nmAll_f hkn (by rw [hbk]; exact hm)]; simp)
              clear hz hl hm hb0 hbk hb2 hp
              go_wp2
              go_ret
              exact ⟨ret_bool hr.out.symm, rfl⟩
          · have f0 : ¬ (97 : Int) ≤ (c : Int) := by omega
            have f1 : (65 : Int) ≤ (c : Int) := by omega
            have f2 : ¬ (c : Int) ≤ 90 := by omega
            have f3 : ¬ (c : Int) = 45 := by omega
            have f4 : ¬ (c : Int) < 48 := by omega
            have f5 : (57 : Int) < (c : Int) := by omega
            have fe : ((c : Int) == 45) = false := by simp; omega
            have hl : letB (c : Int) = false := by unfold letB; simp; omega
            have hm : nmcB (c : Int) = false := by unfold nmcB; rw [hl]; unfold digB; simp; omega
            rcases Nat.eq_zero_or_pos k with rfl | hp
            · have hr : Hid (B = false) := Lib.hid (by rw [← hb2.out, hb0 rfl, hl]; rfl)
              clear hz hl hm hb0 hbk hb2
              go_wp2
              go_ret
              exact ⟨ret_bool hr.out.symm, rfl⟩
            · have kp : ¬ (k : Int) = 0 := by omega
              have kp2 : ((k : Int) == 0) = false := by simp; omega
              have hr : Hid (B = false) := Lib.hid (by rw [← hb2.out, nmAll_f hkn (by rw [hbk]; exact hm)]; simp)
              clear hz hl hm hb0 hbk hb2 hp
              go_wp2
              go_ret
              exact ⟨ret_bool hr.out.symm, rfl⟩
          · have f0 : ¬ (97 : Int) ≤ (c : Int) := by omega
            have f1 : ¬ (65 : Int) ≤ (c : Int) := by omega
            have f2 : ¬ (c : Int) = 45 := by omega
            have f3 : (c : Int) < 48 := by omega
            have fe : ((c : Int) == 45) = false := by simp; omega
            have hl : letB (c : Int) = false := by unfold letB; simp; omega
            have hm : nmcB (c : Int) = false := by unfold nmcB; rw [hl]; unfold digB; simp; omega
            rcases Nat.eq_zero_or_pos k with rfl | hp
            · have hr : Hid (B = false) := Lib.hid (by rw [← hb2.out, hb0 rfl, hl]; rfl)
              clear hz hl hm hb0 hbk hb2
              go_wp2
              go_ret
              exact ⟨ret_bool hr.out.symm, rfl⟩
            · have kp : ¬ (k : Int) = 0 := by omega
              have kp2 : ((k : Int) == 0) = false := by simp; omega
              have hr : Hid (B = false) := Lib.hid (by rw [← hb2.out, nmAll_f hkn (by rw [hbk]; exact hm)]; simp)
              clear hz hl hm hb0 hbk hb2 hp
              go_wp2
              go_ret
              exact ⟨ret_bool hr.out.symm, rfl⟩
          · have f0 : ¬ (97 : Int) ≤ (c : Int) := by omega
            have f1 : ¬ (65 : Int) ≤ (c : Int) := by omega
            have f2 : ¬ (c : Int) = 45 := by omega
            have f3 : ¬ (c : Int) < 48 := by omega
            have f4 : (57 : Int) < (c : Int) := by omega
            have fe : ((c : Int) == 45) = false := by simp; omega
            have hl : letB (c : Int) = false := by unfold letB; simp; omega
            have hm : nmcB (c : Int) = false := by unfold nmcB; rw [hl]; unfold digB; simp; omega
            rcases Nat.eq_zero_or_pos k with rfl | hp
            · have hr : Hid (B = false) := Lib.hid (by rw [← hb2.out, hb0 rfl, hl]; rfl)
              clear hz hl hm hb0 hbk hb2
              go_wp2
              go_ret
              exact ⟨ret_bool hr.out.symm, rfl⟩
            · have kp : ¬ (k : Int) = 0 := by omega
              have kp2 : ((k : Int) == 0) = false := by simp; omega
              have hr : Hid (B = false) := Lib.hid (by rw [← hb2.out, nmAll_f hkn (by rw [hbk]; exact hm)]; simp)
              clear hz hl hm hb0 hbk hb2 hp
              go_wp2
              go_ret
              exact ⟨ret_bool hr.out.symm, rfl⟩
          · have f0 : ¬ (97 : Int) ≤ (c : Int) := by omega
            have f1 : ¬ (65 : Int) ≤ (c : Int) := by omega
            have f2 : ¬ (c : Int) = 45 := by omega
            have f3 : ¬ (c : Int) < 48 := by omega
            have f4 : ¬ (57 : Int) < (c : Int) := by omega
            have fe : ((c : Int) == 45) = false := by simp; omega
            have hl : letB (c : Int) = false := by unfold letB; simp; omega
            have hm : nmcB (c : Int) = true := by unfold nmcB; rw [hl]; unfold digB; simp; omega
            rcases Nat.eq_zero_or_pos k with rfl | hp
            · have hr : Hid (B = false) := Lib.hid (by rw [← hb2.out, hb0 rfl, hl]; rfl)
              clear hz hl hm hb0 hbk hb2
              go_wp2
              go_ret
              exact ⟨ret_bool hr.out.symm, rfl⟩
            · have kp : ¬ (k : Int) = 0 := by omega
              have kp2 : ((k : Int) == 0) = false := by simp; omega
              have hz2 : Hid ((0 < k + 1 → letB (byt s 0) = true) ∧ ∀ j, j < k + 1 → nmcB (byt s j) = true) := Lib.hid ⟨fun _ => hz.out.1 hp, fun j hj => by
                  by_cases e : j = k
                  · rw [e, hbk]; exact hm
                  · exact hz.out.2 j (by omega)⟩
              clear hz hl hm hb0 hbk hb2 hp
              go_wp2
              go_round
              case rel => exact ⟨k + 1, by omega, by go_num, hz2⟩
              case measure => (simp [intOf]; omega)
          · have hl : letB ((45 : Nat) : Int) = false := by decide
            have hm : nmcB ((45 : Nat) : Int) = true := by decide
            rcases Nat.eq_zero_or_pos k with rfl | hp
            · have hr : Hid (B = false) := Lib.hid (by rw [← hb2.out, hb0 rfl, hl]; rfl)
              clear hz hl hm hb0 hbk hb2
              go_wp2
              go_ret
              exact ⟨ret_bool hr.out.symm, rfl⟩
            · have kp : ¬ (k : Int) = 0 := by omega
              have kp2 : ((k : Int) == 0) = false := by simp; omega
              have hz2 : Hid ((0 < k + 1 → letB (byt s 0) = true) ∧ ∀ j, j < k + 1 → nmcB (byt s j) = true) := Lib.hid ⟨fun _ => hz.out.1 hp, fun j hj => by
                  by_cases e : j = k
                  · rw [e, hbk]; exact hm
                  · exact hz.out.2 j (by omega)⟩
              clear hz hl hm hb0 hbk hb2 hp
              go_wp2
              go_round
              case rel => exact ⟨k + 1, by omega, by go_num, hz2⟩
              case measure => (simp [intOf]; omega)
        · have kn : ¬ (k : Int) < (s.size : Int) := by omega
          have hr : Hid (B = true) := Lib.hid (by
            rw [← hb2.out, hz.out.1 (by omega), nmAll_t (fun j hj => hz.out.2 j (by omega))]; rfl)
          clear hz hb2
          go_wp2
          go_ret
          exact ⟨ret_bool hr.out.symm, rfl⟩
end Go.Proofs.Ytgidmmmdpmophaa
