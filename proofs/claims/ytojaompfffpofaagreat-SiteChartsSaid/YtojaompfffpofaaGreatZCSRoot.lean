import Derived.Test.YtojaompfffpofaaGreatZCSCos
import Derived.Outline
namespace Go.Proofs.YtojaompfffpofaaGreat
open Go.ChangeShapes Go.WideShapes Go.ChangeAt Go.RowKit
set_option linter.unusedVariables false
set_option linter.unusedSimpArgs false
theorem rootDownC (n r b : Nat) (p : Bool) (w : World) (hn : n ≤ 10000000000000000) (hr : r < 100000000) (hc : w.cell? ⟨b, 0, none⟩ = some (.int .i64 n)) (hp : Hid (decide (n < (r + 1) * (r + 1)) = p)) :
    Calls Tryz.prog 155 #[.int .i64 r, .pointer (some ⟨b, 0, none⟩)] w fun e w' => e = .returned (.bool p) ∧ w = w' := by
  obtain ⟨m, hm⟩ : ∃ m : Nat, Hid ((r + 1) * (r + 1) = m) := ⟨_, rfl⟩
  have e1 : IntKind.i64.wrap ((r : Int) + 1) = (r : Int) + 1 := IntWalk.i64_in _ (by omega)
  have m0 : ((r : Int) + 1) * ((r : Int) + 1) = m := by rw [← hm.out]; simp
  have m1 : m ≤ 10000000000000000 := by rw [← hm.out]; exact sq_mono (show r + 1 ≤ 100000000 by omega)
  have m2 : IntKind.i64.wrap (((r : Int) + 1) * ((r : Int) + 1)) = m := by rw [m0]; exact IntWalk.i64_in _ (by omega)
  by_cases hc2 : n < m
  · have x1 : (n : Int) < m := by omega
    have hP : Hid (p = true) := Lib.hid (by rw [← hp.out, hm.out]; simp [hc2])
    clear hp hm
    go_enter Tryz.func155, Tryz.ntmps155
    go_wp2
    go_ret
    exact ⟨ret_bool hP.out.symm, rfl⟩
  · have x1 : ¬ (n : Int) < m := by omega
    have hP : Hid (p = false) := Lib.hid (by rw [← hp.out, hm.out]; simp; omega)
    clear hp hm
    go_enter Tryz.func155, Tryz.ntmps155
    go_wp2
    go_ret
    exact ⟨ret_bool hP.out.symm, rfl⟩
theorem rootUpC (n r b : Nat) (p : Bool) (w : World) (hn : n ≤ 10000000000000000) (hr : r < 100000000) (hc : w.cell? ⟨b, 0, none⟩ = some (.int .i64 n)) (hp : Hid (decide (n ≤ r * r) = p)) :
    Calls Tryz.prog 156 #[.int .i64 r, .pointer (some ⟨b, 0, none⟩)] w fun e w' => e = .returned (.bool p) ∧ w = w' := by
  obtain ⟨m, hm⟩ : ∃ m : Nat, Hid (r * r = m) := ⟨_, rfl⟩
  have m0 : (r : Int) * (r : Int) = m := by rw [← hm.out]; simp
  have m1 : m ≤ 10000000000000000 := by rw [← hm.out]; exact sq_mono (show r ≤ 100000000 by omega)
  have m2 : IntKind.i64.wrap ((r : Int) * (r : Int)) = m := by rw [m0]; exact IntWalk.i64_in _ (by omega)
  by_cases hc2 : n ≤ m
  · have x1 : (n : Int) ≤ m := by omega
    have hP : Hid (p = true) := Lib.hid (by rw [← hp.out, hm.out]; simp [hc2])
    clear hp hm
    go_enter Tryz.func156, Tryz.ntmps156
    go_wp2
    go_ret
    exact ⟨ret_bool hP.out.symm, rfl⟩
  · have x1 : ¬ (n : Int) ≤ m := by omega
    have hP : Hid (p = false) := Lib.hid (by rw [← hp.out, hm.out]; simp; omega)
    clear hp hm
    go_enter Tryz.func156, Tryz.ntmps156
    go_wp2
    go_ret
    exact ⟨ret_bool hP.out.symm, rfl⟩
set_option maxHeartbeats 1000000 in
set_option maxRecDepth 100000 in
theorem searchD (N t b : Nat) (p : Nat → Bool) (w : World) (hN : N ≤ 1000000000) (ht : t ≤ N) (hlo : Hid (∀ i, i < t → p i = false)) (hhi : Hid (∀ i, t ≤ i → i < N → p i = true))
    (hcall : Hid (∀ i, i < N → Calls Tryz.prog 155 #[.int .i64 i, .pointer (some ⟨b, 0, none⟩)] w fun e w' => e = .returned (.bool (p i)) ∧ w = w')) :
    Calls Tryz.prog 122 #[.int .i64 N, .func (.func 155) #[] #[.pointer (some ⟨b, 0, none⟩)]] w fun e w' => e = .returned (.int .i64 t) ∧ w = w' := by
  go_enter Tryz.func122, Tryz.ntmps122
  go_wp2
  go_loop [5, 6] (fun x y => ∃ (i j : Nat), x = .int .i64 i ∧ y = .int .i64 j ∧ i ≤ t ∧ t ≤ j ∧ j ≤ N) (fun x y => ((intOf y) - (intOf x)).toNat)
  case atStart => exact ⟨0, N, rfl, rfl, by omega, ht, by omega⟩
  case round =>
    obtain ⟨i, j, rfl, rfl, hi, hj, hjN⟩ := hrel
    by_cases hlt : i < j
    · obtain ⟨h, hh⟩ : ∃ h : Nat, Hid ((i + j) / 2 = h) := ⟨_, rfl⟩
      have h1 : i ≤ h ∧ h < j := by rw [← hh.out]; omega
      obtain ⟨h2, h3⟩ := h1
      have e1 : IntKind.i64.wrap ((i : Int) + j) = (i : Int) + j := IntWalk.i64_in _ (by omega)
      have e5 : IntKind.i64.wrap ((h : Int) + 1) = (h : Int) + 1 := IntWalk.i64_in _ (by omega)
      have e6 : IntKind.i64.wrap (h : Int) = h := IntWalk.i64_in _ (by omega)
      have d1 : ((i : Int) + j) / 2 = h := by rw [← hh.out]; omega
      have hlt' : (i : Int) < j := by omega
      cases hp : p h with
      | true =>
        have hC := Lib.hid (hcall.out h (by omega))
        have hC2 : Hid (Calls Tryz.prog 155 #[.int .i64 h, .pointer (some ⟨b, 0, none⟩)] w fun e w' => e = .returned (.bool true) ∧ w = w') := Lib.hid (by have := hC.out; rw [hp] at this; exact this)
        have ht2 : t ≤ h := by
          rcases Nat.lt_or_ge h t with q | q
          · have := hlo.out h q; rw [hp] at this; cases this
          · exact q
        clear hC hh hp
        go_wp2_with fail
        refine hC2.out.mono ?_
        rintro e w' ⟨rfl, rfl⟩
        go_wp2
        go_round
        case rel => exact ⟨i, h, rfl, rfl, hi, ht2, by omega⟩
        case measure => simp [intOf]; omega
      | false =>
        have hC := Lib.hid (hcall.out h (by omega))
        have hC2 : Hid (Calls Tryz.prog 155 #[.int .i64 h, .pointer (some ⟨b, 0, none⟩)] w fun e w' => e = .returned (.bool false) ∧ w = w') := Lib.hid (by have := hC.out; rw [hp] at this; exact this)
        have ht2 : h < t := by
          rcases Nat.lt_or_ge h t with q | q
          · exact q
          · have := hhi.out h q (by omega); rw [hp] at this; cases this
        clear hC hh hp
        go_wp2_with fail
        refine hC2.out.mono ?_
        rintro e w' ⟨rfl, rfl⟩
        go_wp2
        go_round
        case rel => exact ⟨h + 1, j, by go_num, rfl, ht2, hj, hjN⟩
        case measure => simp [intOf]; omega
    · have hk : i = t ∧ j = t := by omega
      obtain ⟨rfl, rfl⟩ := hk
      go_wp2
      go_ret
      exact ⟨rfl, rfl⟩
set_option maxHeartbeats 1000000 in
set_option maxRecDepth 100000 in
theorem searchU (N t b : Nat) (p : Nat → Bool) (w : World) (hN : N ≤ 1000000000) (ht : t ≤ N) (hlo : Hid (∀ i, i < t → p i = false)) (hhi : Hid (∀ i, t ≤ i → i < N → p i = true))
    (hcall : Hid (∀ i, i < N → Calls Tryz.prog 156 #[.int .i64 i, .pointer (some ⟨b, 0, none⟩)] w fun e w' => e = .returned (.bool (p i)) ∧ w = w')) :
    Calls Tryz.prog 122 #[.int .i64 N, .func (.func 156) #[] #[.pointer (some ⟨b, 0, none⟩)]] w fun e w' => e = .returned (.int .i64 t) ∧ w = w' := by
  go_enter Tryz.func122, Tryz.ntmps122
  go_wp2
  go_loop [5, 6] (fun x y => ∃ (i j : Nat), x = .int .i64 i ∧ y = .int .i64 j ∧ i ≤ t ∧ t ≤ j ∧ j ≤ N) (fun x y => ((intOf y) - (intOf x)).toNat)
  case atStart => exact ⟨0, N, rfl, rfl, by omega, ht, by omega⟩
  case round =>
    obtain ⟨i, j, rfl, rfl, hi, hj, hjN⟩ := hrel
    by_cases hlt : i < j
    · obtain ⟨h, hh⟩ : ∃ h : Nat, Hid ((i + j) / 2 = h) := ⟨_, rfl⟩
      have h1 : i ≤ h ∧ h < j := by rw [← hh.out]; omega
      obtain ⟨h2, h3⟩ := h1
      have e1 : IntKind.i64.wrap ((i : Int) + j) = (i : Int) + j := IntWalk.i64_in _ (by omega)
      have e5 : IntKind.i64.wrap ((h : Int) + 1) = (h : Int) + 1 := IntWalk.i64_in _ (by omega)
      have e6 : IntKind.i64.wrap (h : Int) = h := IntWalk.i64_in _ (by omega)
      have d1 : ((i : Int) + j) / 2 = h := by rw [← hh.out]; omega
      have hlt' : (i : Int) < j := by omega
      cases hp : p h with
      | true =>
        have hC := Lib.hid (hcall.out h (by omega))
        have hC2 : Hid (Calls Tryz.prog 156 #[.int .i64 h, .pointer (some ⟨b, 0, none⟩)] w fun e w' => e = .returned (.bool true) ∧ w = w') := Lib.hid (by have := hC.out; rw [hp] at this; exact this)
        have ht2 : t ≤ h := by
          rcases Nat.lt_or_ge h t with q | q
          · have := hlo.out h q; rw [hp] at this; cases this
          · exact q
        clear hC hh hp
        go_wp2_with fail
        refine hC2.out.mono ?_
        rintro e w' ⟨rfl, rfl⟩
        go_wp2
        go_round
        case rel => exact ⟨i, h, rfl, rfl, hi, ht2, by omega⟩
        case measure => simp [intOf]; omega
      | false =>
        have hC := Lib.hid (hcall.out h (by omega))
        have hC2 : Hid (Calls Tryz.prog 156 #[.int .i64 h, .pointer (some ⟨b, 0, none⟩)] w fun e w' => e = .returned (.bool false) ∧ w = w') := Lib.hid (by have := hC.out; rw [hp] at this; exact this)
        have ht2 : h < t := by
          rcases Nat.lt_or_ge h t with q | q
          · exact q
          · have := hhi.out h q (by omega); rw [hp] at this; cases this
        clear hC hh hp
        go_wp2_with fail
        refine hC2.out.mono ?_
        rintro e w' ⟨rfl, rfl⟩
        go_wp2
        go_round
        case rel => exact ⟨h + 1, j, by go_num, rfl, ht2, hj, hjN⟩
        case measure => simp [intOf]; omega
    · have hk : i = t ∧ j = t := by omega
      obtain ⟨rfl, rfl⟩ := hk
      go_wp2
      go_ret
      exact ⟨rfl, rfl⟩
/-- The root rounded down, and up. -/
noncomputable def rtD (n : Nat) : Nat := isq n
noncomputable def rtU (n : Nat) : Nat := if isq n * isq n < n then isq n + 1 else isq n
theorem isq_le8 {n : Nat} (hn : n ≤ 10000000000000000) : isq n ≤ 100000000 := by
  have h1 := isq_le n
  rcases Nat.lt_or_ge 100000000 (isq n) with h | h
  · have := sq_mono (show 100000001 ≤ isq n by omega); omega
  · exact h
theorem rtU_le8 {n : Nat} (hn : n ≤ 10000000000000000) : rtU n ≤ 100000000 := by
  have h1 := isq_le8 hn
  unfold rtU
  split
  · rename_i h2
    rcases Nat.lt_or_ge (isq n) 100000000 with h | h
    · omega
    · have := sq_mono h; omega
  · exact h1
theorem rootDown_any (n : Nat) (w : World) (hn : n ≤ 10000000000000000) :
    Calls Tryz.prog 138 #[.int .i64 n] w fun e w' => e = .returned (.int .i64 (rtD n)) ∧ w.alloc (.cells #[.int .i64 n] 3) = w' := by
  obtain ⟨r, hr⟩ : ∃ r, Hid (rtD n = r) := ⟨_, Lib.hid rfl⟩
  rw [hr.out]
  have h8 : r ≤ 100000000 := by rw [← hr.out]; exact isq_le8 hn
  have HLO : Hid (∀ i, i < r → decide (n < (i + 1) * (i + 1)) = false) := Lib.hid fun i hi => by
    have h1 := isq_le n
    have h2 : isq n = r := hr.out
    have := sq_mono (show i + 1 ≤ r by omega)
    rw [h2] at h1
    simp; omega
  have HHI : Hid (∀ i, r ≤ i → i < 100000000 → decide (n < (i + 1) * (i + 1)) = true) := Lib.hid fun i hi _ => by
    have h1 := isq_lt n
    have h2 : isq n = r := hr.out
    have := sq_mono (show r + 1 ≤ i + 1 by omega)
    rw [h2] at h1
    simp; omega
  clear hr
  go_enter Tryz.func138, Tryz.ntmps138
  go_wp2_with fail
  refine (searchD 100000000 r w.heap.size (fun i => decide (n < (i + 1) * (i + 1))) _ (by omega) h8 HLO HHI (Lib.hid fun i hi => rootDownC n i w.heap.size _ _ hn hi (by simp [go_sem]) (Lib.hid rfl))).mono ?_
  rintro e w' ⟨rfl, rfl⟩
  go_wp2
  go_ret
  exact ⟨rfl, rfl⟩
theorem rootUp_any (n : Nat) (w : World) (hn : n ≤ 10000000000000000) :
    Calls Tryz.prog 140 #[.int .i64 n] w fun e w' => e = .returned (.int .i64 (rtU n)) ∧ w.alloc (.cells #[.int .i64 n] 3) = w' := by
  have h8 := rtU_le8 hn
  have h1 := isq_le n
  have h2 := isq_lt n
  have h3 : (isq n * isq n < n ∧ rtU n = isq n + 1) ∨ (isq n * isq n = n ∧ rtU n = isq n) := by
    unfold rtU; split
    · left; exact ⟨by assumption, rfl⟩
    · right; exact ⟨by omega, rfl⟩
  obtain ⟨r, hr⟩ : ∃ r, rtU n = r := ⟨_, rfl⟩
  rw [hr] at h8 h3 ⊢
  have HLO : Hid (∀ i, i < r → decide (n ≤ i * i) = false) := Lib.hid fun i hi => by
    rcases h3 with ⟨a, b⟩ | ⟨a, b⟩
    · have := sq_mono (show i ≤ isq n by omega); simp; omega
    · have := sq_mono (show i + 1 ≤ isq n by omega)
      have e : (i + 1) * (i + 1) = i * i + 2 * i + 1 := by grind
      simp; omega
  have HHI : Hid (∀ i, r ≤ i → i < 100000000 → decide (n ≤ i * i) = true) := Lib.hid fun i hi _ => by
    rcases h3 with ⟨a, b⟩ | ⟨a, b⟩
    · have := sq_mono (show isq n + 1 ≤ i by omega); simp; omega
    · have := sq_mono (show isq n ≤ i by omega); simp; omega
  clear h1 h2 h3 hr
  go_enter Tryz.func140, Tryz.ntmps140
  go_wp2_with fail
  refine (searchU 100000000 r w.heap.size (fun i => decide (n ≤ i * i)) _ (by omega) h8 HLO HHI (Lib.hid fun i hi => rootUpC n i w.heap.size _ _ hn hi (by simp [go_sem]) (Lib.hid rfl))).mono ?_
  rintro e w' ⟨rfl, rfl⟩
  go_wp2
  go_ret
  exact ⟨rfl, rfl⟩
end Go.Proofs.YtojaompfffpofaaGreat
