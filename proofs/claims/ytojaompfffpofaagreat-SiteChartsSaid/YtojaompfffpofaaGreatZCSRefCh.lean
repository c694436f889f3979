import Derived.Test.YtojaompfffpofaaGreatZCSCht
import Derived.Test.YtojaompfffpofaaGreatZCSRefSw
import Derived.Outline
namespace Go.Proofs.YtojaompfffpofaaGreat
open Go.ChangeShapes Go.WideShapes Go.ChangeAt Go.RowKit
set_option linter.unusedVariables false
set_option linter.unusedSimpArgs false
attribute [local go_sem ↓] Go.wp_at_zero Go.wp_at_succ
set_option maxRecDepth 100000 in
set_option maxHeartbeats 2000000 in
theorem baseIsName_any (s : ByteArray) (B : Bool) (w : World) (hs : s.size ≤ 1000000) (hB : Hid (nameB s = B)) : Calls Tryz.prog 92 #[.string s] w fun e w' => e = .returned (.bool B) ∧ w = w' := by
  have hb := hB.out
  unfold nameB at hb
  clear hB
  by_cases h0 : s.size < 1
  · have hr : Hid (B = false) := Lib.hid (by rw [← hb]; simp; omega)
    have i0 : (s.size : Int) < 1 := by omega
    have z0 : s.size = 0 := by omega
    clear hb h0
    go_enter Tryz.func92, Tryz.ntmps92
    go_wp2
    go_ret
    exact ⟨ret_bool hr.out.symm, rfl⟩
  · have i0 : ¬ (s.size : Int) < 1 := by omega
    by_cases h1 : 12 < s.size
    · have hr : Hid (B = false) := Lib.hid (by rw [← hb]; simp; omega)
      have i1 : (12 : Int) < (s.size : Int) := by omega
      have z1 : ¬ s.size = 0 := by omega
      clear hb h0 h1
      go_enter Tryz.func92, Tryz.ntmps92
      go_wp2
      go_ret
      exact ⟨ret_bool hr.out.symm, rfl⟩
    · have i1 : ¬ (12 : Int) < (s.size : Int) := by omega
      have z1 : ¬ s.size = 0 := by omega
      have hb2 : Hid ((letB (byt s 0) && nmAll s) = B) := Lib.hid (by rw [← hb]; simp [show 1 ≤ s.size ∧ s.size ≤ 12 by omega])
      have hsz : s.size ≤ 12 := by omega
      clear hb h0 h1
      go_enter Tryz.func92, Tryz.ntmps92
      go_wp2
      go_loop [3] (fun i => ∃ k : Nat, k ≤ s.size ∧ i = .int .i64 k ∧ Hid ((0 < k → letB (byt s 0) = true) ∧ ∀ j, j < k → nmcB (byt s j) = true)) (fun i => s.size - (intOf i).toNat)
      case atStart => exact ⟨0, by omega, rfl, fun h => by omega, fun j hj => by omega⟩
      case round =>
        obtain ⟨k, hk, rfl, hz⟩ := hrel
        by_cases hkn : k < s.size
        · have kn : (k : Int) < (s.size : Int) := by omega
          obtain ⟨c, hcc⟩ : ∃ c : Nat, s[k].toNat = c := ⟨_, rfl⟩
          have hbk : byt s k = (c : Int) := by rw [byt_at hkn, hcc]
          have hb0 : k = 0 → byt s 0 = (c : Int) := fun e => by subst e; exact hbk
          have cases8 : ((97 : Int) ≤ c ∧ (c : Int) ≤ 122) ∨ (¬ (97 : Int) ≤ c ∧ (65 : Int) ≤ c ∧ (c : Int) ≤ 90) ∨ ((97 : Int) ≤ c ∧ ¬ (c : Int) ≤ 122) ∨ (¬ (97 : Int) ≤ c ∧ (65 : Int) ≤ c ∧ ¬ (c : Int) ≤ 90) ∨ (¬ (65 : Int) ≤ c ∧ ¬ (c : Int) = 45 ∧ (c : Int) < 48) ∨ (¬ (65 : Int) ≤ c ∧ ¬ (c : Int) < 48 ∧ (57 : Int) < c) ∨ (¬ (65 : Int) ≤ c ∧ ¬ (c : Int) < 48 ∧ ¬ (57 : Int) < c) ∨ c = 45 := by omega
          rcases cases8 with h | h | h | h | h | h | h | rfl
          · have f0 : (97 : Int) ≤ (c : Int) := by omega
            have f1 : (c : Int) ≤ 122 := by omega
            have hl : letB (c : Int) = true := by unfold letB; simp; omega
            have hm : nmcB (c : Int) = true := by unfold nmcB; rw [hl]; simp
            rcases Nat.eq_zero_or_pos k with rfl | hp
            · have hz2 : Hid ((0 < 0 + 1 → letB (byt s 0) = true) ∧ ∀ j, j < 0 + 1 → nmcB (byt s j) = true) := Lib.hid ⟨fun _ => by rw [hb0 rfl]; exact hl, fun j hj => by obtain rfl : j = 0 := (by omega); rw [hb0 rfl]; exact hm⟩
              clear hz hl hm hb0 hbk hb2
              go_wp2
              go_round
              case rel => exact ⟨0 + 1, by omega, by go_num, hz2⟩
              case measure => (simp [intOf]; omega)
            · have kp : ¬ (k : Int) = 0 := by omega
              have kp2 : ((k : Int) == 0) = false := by simp; omega
              have hz2 : Hid ((0 < k + 1 → letB (byt s 0) = true) ∧ ∀ j, j < k + 1 → nmcB (byt s j) = true) := Lib.hid ⟨fun _ => hz.out.1 hp, fun j hj => by
                  by_cases e : j = k
                  · rw [e, hbk]; exact hm
                  · exact hz.out.2 j (by omega)⟩
              clear hz hl hm hb0 hbk hb2 hp
              go_wp2
              go_round
              case rel => exact ⟨k + 1, by omega, by go_num, hz2⟩
              case measure => (simp [intOf]; omega)
          · have f0 : ¬ (97 : Int) ≤ (c : Int) := by omega
            have f1 : (65 : Int) ≤ (c : Int) := by omega
            have f2 : (c : Int) ≤ 90 := by omega
            have hl : letB (c : Int) = true := by unfold letB; simp; omega
            have hm : nmcB (c : Int) = true := by unfold nmcB; rw [hl]; simp
            rcases Nat.eq_zero_or_pos k with rfl | hp
            · have hz2 : Hid ((0 < 0 + 1 → letB (byt s 0) = true) ∧ ∀ j, j < 0 + 1 → nmcB (byt s j) = true) := Lib.hid ⟨fun _ => by rw [hb0 rfl]; exact hl, fun j hj => by obtain rfl : j = 0 := (by omega); rw [hb0 rfl]; exact hm⟩
              clear hz hl hm hb0 hbk hb2
              go_wp2
              go_round
              case rel => exact ⟨0 + 1, by omega, by go_num, hz2⟩
              case measure => (simp [intOf]; omega)
            · have kp : ¬ (k : Int) = 0 := by omega
              have kp2 : ((k : Int) == 0) = false := by simp; omega
              have hz2 : Hid ((0 < k + 1 → letB (byt s 0) = true) ∧ ∀ j, j < k + 1 → nmcB (byt s j) = true) := Lib.hid ⟨fun _ => hz.out.1 hp, fun j hj => by
                  by_cases e : j = k
                  · rw [e, hbk]; exact hm
                  · exact hz.out.2 j (by omega)⟩
              clear hz hl hm hb0 hbk hb2 hp
              go_wp2
              go_round
              case rel => exact ⟨k + 1, by omega, by go_num, hz2⟩
              case measure => (simp [intOf]; omega)
          · have f0 : (97 : Int) ≤ (c : Int) := by omega
            have f1 : ¬ (c : Int) ≤ 122 := by omega
            have f2 : (65 : Int) ≤ (c : Int) := by omega
            have f3 : ¬ (c : Int) ≤ 90 := by omega
            have f4 : ¬ (c : Int) = 45 := by omega
            have f5 : ¬ (c : Int) < 48 := by omega
            have f6 : (57 : Int) < (c : Int) := by omega
            have fe : ((c : Int) == 45) = false := by simp; omega
            have hl : letB (c : Int) = false := by unfold letB; simp; omega
            have hm : nmcB (c : Int) = false := by unfold nmcB; rw [hl]; unfold digB; simp; omega
            rcases Nat.eq_zero_or_pos k with rfl | hp
            · have hr : Hid (B = false) := Lib.hid (by rw [← hb2.out, hb0 rfl, hl]; rfl)
              clear hz hl hm hb0 hbk hb2
              go_wp2
              go_ret
              exact ⟨ret_bool hr.out.symm, rfl⟩
            · have kp : ¬ (k : Int) = 0 := by omega
              have kp2 : ((k : Int) == 0) = false := by simp; omega
              have hr : Hid (B = false) := Lib.hid (by rw [← hb2.out, nmAll_f hkn (by rw [hbk]; exact hm)]; simp)
              clear hz hl hm hb0 hbk hb2 hp
              go_wp2
              go_ret
              exact ⟨ret_bool hr.out.symm, rfl⟩
          · have f0 : ¬ (97 : Int) ≤ (c : Int) := by omega
            have f1 : (65 : Int) ≤ (c : Int) := by omega
            have f2 : ¬ (c : Int) ≤ 90 := by omega
            have f3 : ¬ (c : Int) = 45 := by omega
            have f4 : ¬ (c : Int) < 48 := by omega
            have f5 : (57 : Int) < (c : Int) := by omega
            have fe : ((c : Int) == 45) = false := by simp; omega
            have hl : letB (c : Int) = false := by unfold letB; simp; omega
            have hm : nmcB (c : Int) = false := by unfold nmcB; rw [hl]; unfold digB; simp; omega
            rcases Nat.eq_zero_or_pos k with rfl | hp
            · have hr : Hid (B = false) := Lib.hid (by rw [← hb2.out, hb0 rfl, hl]; rfl)
              clear hz hl hm hb0 hbk hb2
              go_wp2
              go_ret
              exact ⟨ret_bool hr.out.symm, rfl⟩
            · have kp : ¬ (k : Int) = 0 := by omega
              have kp2 : ((k : Int) == 0) = false := by simp; omega
              have hr : Hid (B = false) := Lib.hid (by rw [← hb2.out, nmAll_f hkn (by rw [hbk]; exact hm)]; simp)
              clear hz hl hm hb0 hbk hb2 hp
              go_wp2
              go_ret
              exact ⟨ret_bool hr.out.symm, rfl⟩
          · have f0 : ¬ (97 : Int) ≤ (c : Int) := by omega
            have f1 : ¬ (65 : Int) ≤ (c : Int) := by omega
            have f2 : ¬ (c : Int) = 45 := by omega
            have f3 : (c : Int) < 48 := by omega
            have fe : ((c : Int) == 45) = false := by simp; omega
            have hl : letB (c : Int) = false := by unfold letB; simp; omega
            have hm : nmcB (c : Int) = false := by unfold nmcB; rw [hl]; unfold digB; simp; omega
            rcases Nat.eq_zero_or_pos k with rfl | hp
            · have hr : Hid (B = false) := Lib.hid (by rw [← hb2.out, hb0 rfl, hl]; rfl)
              clear hz hl hm hb0 hbk hb2
              go_wp2
              go_ret
              exact ⟨ret_bool hr.out.symm, rfl⟩
            · have kp : ¬ (k : Int) = 0 := by omega
              have kp2 : ((k : Int) == 0) = false := by simp; omega
              have hr : Hid (B = false) := Lib.hid (by rw [← hb2.out, nmAll_f hkn (by rw [hbk]; exact hm)]; simp)
              clear hz hl hm hb0 hbk hb2 hp
              go_wp2
              go_ret
              exact ⟨ret_bool hr.out.symm, rfl⟩
          · have f0 : ¬ (97 : Int) ≤ (c : Int) := by omega
            have f1 : ¬ (65 : Int) ≤ (c : Int) := by omega
            have f2 : ¬ (c : Int) = 45 := by omega
            have f3 : ¬ (c : Int) < 48 := by omega
            have f4 : (57 : Int) < (c : Int) := by omega
            have fe : ((c : Int) == 45) = false := by simp; omega
            have hl : letB (c : Int) = false := by unfold letB; simp; omega
            have hm : nmcB (c : Int) = false := by unfold nmcB; rw [hl]; unfold digB; simp; omega
            rcases Nat.eq_zero_or_pos k with rfl | hp
            · have hr : Hid (B = false) := Lib.hid (by rw [← hb2.out, hb0 rfl, hl]; rfl)
              clear hz hl hm hb0 hbk hb2
              go_wp2
              go_ret
              exact ⟨ret_bool hr.out.symm, rfl⟩
            · have kp : ¬ (k : Int) = 0 := by omega
              have kp2 : ((k : Int) == 0) = false := by simp; omega
              have hr : Hid (B = false) := Lib.hid (by rw [← hb2.out, nmAll_f hkn (by rw [hbk]; exact hm)]; simp)
              clear hz hl hm hb0 hbk hb2 hp
              go_wp2
              go_ret
              exact ⟨ret_bool hr.out.symm, rfl⟩
          · have f0 : ¬ (97 : Int) ≤ (c : Int) := by omega
            have f1 : ¬ (65 : Int) ≤ (c : Int) := by omega
            have f2 : ¬ (c : Int) = 45 := by omega
            have f3 : ¬ (c : Int) < 48 := by omega
            have f4 : ¬ (57 : Int) < (c : Int) := by omega
            have fe : ((c : Int) == 45) = false := by simp; omega
            have hl : letB (c : Int) = false := by unfold letB; simp; omega
            have hm : nmcB (c : Int) = true := by unfold nmcB; rw [hl]; unfold digB; simp; omega
            rcases Nat.eq_zero_or_pos k with rfl | hp
            · have hr : Hid (B = false) := Lib.hid (by rw [← hb2.out, hb0 rfl, hl]; rfl)
              clear hz hl hm hb0 hbk hb2
              go_wp2
              go_ret
              exact ⟨ret_bool hr.out.symm, rfl⟩
            · have kp : ¬ (k : Int) = 0 := by omega
              have kp2 : ((k : Int) == 0) = false := by simp; omega
              have hz2 : Hid ((0 < k + 1 → letB (byt s 0) = true) ∧ ∀ j, j < k + 1 → nmcB (byt s j) = true) := Lib.hid ⟨fun _ => hz.out.1 hp, fun j hj => by
                  by_cases e : j = k
                  · rw [e, hbk]; exact hm
                  · exact hz.out.2 j (by omega)⟩
              clear hz hl hm hb0 hbk hb2 hp
              go_wp2
              go_round
              case rel => exact ⟨k + 1, by omega, by go_num, hz2⟩
              case measure => (simp [intOf]; omega)
          · have hl : letB ((45 : Nat) : Int) = false := by decide
            have hm : nmcB ((45 : Nat) : Int) = true := by decide
            rcases Nat.eq_zero_or_pos k with rfl | hp
            · have hr : Hid (B = false) := Lib.hid (by rw [← hb2.out, hb0 rfl, hl]; rfl)
              clear hz hl hm hb0 hbk hb2
              go_wp2
              go_ret
              exact ⟨ret_bool hr.out.symm, rfl⟩
            · have kp : ¬ (k : Int) = 0 := by omega
              have kp2 : ((k : Int) == 0) = false := by simp; omega
              have hz2 : Hid ((0 < k + 1 → letB (byt s 0) = true) ∧ ∀ j, j < k + 1 → nmcB (byt s j) = true) := Lib.hid ⟨fun _ => hz.out.1 hp, fun j hj => by
                  by_cases e : j = k
                  · rw [e, hbk]; exact hm
                  · exact hz.out.2 j (by omega)⟩
              clear hz hl hm hb0 hbk hb2 hp
              go_wp2
              go_round
              case rel => exact ⟨k + 1, by omega, by go_num, hz2⟩
              case measure => (simp [intOf]; omega)
        · have kn : ¬ (k : Int) < (s.size : Int) := by omega
          have hr : Hid (B = true) := Lib.hid (by
            rw [← hb2.out, hz.out.1 (by omega), nmAll_t (fun j hj => hz.out.2 j (by omega))]; rfl)
          clear hz hb2
          go_wp2
          go_ret
          exact ⟨ret_bool hr.out.symm, rfl⟩
theorem inN_f {s : ByteArray} {K : List ByteArray} (h : ∀ k, k < K.length → K.getD k default ≠ s) : inN s K = false := by
  rw [Bool.eq_false_iff]
  intro hh
  obtain ⟨k, hk, e⟩ := List.getElem_of_mem (inN_iff.1 hh)
  exact h k hk (by rw [getD_at hk]; exact e)
set_option maxRecDepth 100000 in
set_option maxHeartbeats 1000000 in
theorem hasText_any (K : List ByteArray) (s : ByteArray) (A : Option Addr) (n cap : Nat) (p : Bool) (w : World) (hn : Hid (n = K.length)) (hl : n ≤ 1000000) (HP : Hid (SlRows strV 1 w A K)) (hp : Hid (inN s K = p)) :
    Calls Tryz.prog 93 #[.slice A n cap, .string s] w fun e w' => e = .returned (.bool p) ∧ w = w' := by
  go_enter Tryz.func93, Tryz.ntmps93
  go_wp2
  go_loop [5] (fun i => ∃ k : Nat, k ≤ n ∧ i = .int .i64 k ∧ Hid (∀ j, j < k → K.getD j default ≠ s)) (fun i => n - (intOf i).toNat)
  case atStart => exact ⟨0, by omega, rfl, Lib.hid fun j hj => by omega⟩
  case round =>
    obtain ⟨k, hk, rfl, hz⟩ := hrel
    by_cases hkn : k < n
    · have kn : (k : Int) < (n : Int) := by omega
      have hkl : k < K.length := by have := hn.out; omega
      rcases HP.out with h0 | ⟨b, off, rfl, hlt, hR⟩
      · rw [h0] at hkl; simp at hkl
      have c0 := hR k hkl 0 (by omega)
      rw [show (strV K[k])[0]? = some (.string K[k]) from rfl, Nat.add_zero, Nat.mul_one] at c0
      obtain ⟨t, ht⟩ : ∃ t, Hid (K[k] = t) := ⟨_, Lib.hid rfl⟩
      rw [ht.out] at c0
      clear hR
      by_cases e : t = s
      · have hpt : Hid (p = true) := Lib.hid (by rw [← hp.out]; exact inN_iff.2 (by rw [← e, ← ht.out]; exact List.getElem_mem hkl))
        clear hz ht
        subst e
        go_wp2
        go_ret
        exact ⟨by rw [hpt.out]; rfl, rfl⟩
      · have hz2 : Hid (∀ j, j < k + 1 → K.getD j default ≠ s) := Lib.hid fun j hj => by
          by_cases e2 : j = k
          · rw [e2, getD_at hkl, ht.out]; exact e
          · exact hz.out j (by omega)
        have e3 : (t.toList == s.toList) = false := neStr e
        clear hz ht
        go_wp2
        go_round
        case rel => exact ⟨k + 1, by omega, by go_num, hz2⟩
        case measure => (simp [intOf]) <;> omega
    · have hkk : k = n := by omega
      have hpf : Hid (p = false) := Lib.hid (by rw [← hp.out]; exact inN_f fun j hj => hz.out j (by have := hn.out; omega))
      clear hz hkk
      go_wp2
      go_ret
      exact ⟨by rw [hpf.out]; rfl, rfl⟩
structure ChS (A B : Option Addr) (n m ca cb : Nat) (w X : World) : Prop where
  c0 : X.cell? ⟨w.heap.size, 0, none⟩ = some (.slice A n ca)
  c1 : X.cell? ⟨w.heap.size, 1, none⟩ = some (.slice B m cb)
  be : Below w.heap.size w X
  lt : w.heap.size < X.heap.size
theorem ChS.below {A B : Option Addr} {n m ca cb : Nat} {w X X' : World} (h : ChS A B n m ca cb w X) (hb : Below X.heap.size X X') : ChS A B n m ca cb w X' := by
  have z := hb.size
  have l := h.lt
  exact ⟨(hb.cell (p := ⟨w.heap.size, 0, none⟩) l).trans h.c0, (hb.cell (p := ⟨w.heap.size, 1, none⟩) l).trans h.c1, h.be.trans (hb.mono h.be.size), by omega⟩
theorem nmsK_0 {K : List ByteArray} {s : ByteArray} (h : nmsE K s = 0) : nmsK K s = K ++ [s] := by unfold nmsK; rw [if_pos h]
theorem take_snoc {α : Type} {L : List α} {k : Nat} (hk : k < L.length) : L.take k ++ [L[k]] = L.take (k + 1) := by simp [List.take_append_getElem]
set_option maxRecDepth 100000 in
set_option maxHeartbeats 4000000 in
theorem refChart_any (A B : Option Addr) (n m ca cb : Nat) (Pl : List ByteArray) (M : List (List Int)) (E : Int) (w : World) (hn : Hid (n = Pl.length)) (hm : Hid (m = M.length)) (hl : n ≤ 1000000) (hl2 : m ≤ 1000000) (hcap : n ≤ ca ∨ n = 0) (hsz : Hid (∀ s ∈ Pl, s.size ≤ 1000000)) (HP0 : Hid (SlRows strV 1 w A Pl)) (HM0 : Hid (SlMat w B M)) (hE : Hid (chtE Pl M = E)) :
    Calls Tryz.prog 45 #[.agg #[.slice A n ca, .slice B m cb]] w fun e w' => e = .returned (.int .i64 E) ∧ Below w.heap.size w w' := by
  have he := hE.out
  unfold chtE at he
  rw [← hn.out, ← hm.out] at he
  clear hE
  by_cases h12 : 12 < n
  · rw [if_pos h12] at he
    have HE := Lib.hid he
    have i0 : (12 : Int) < (n : Int) := by omega
    clear he
    go_enter Tryz.func45, Tryz.ntmps45
    go_wp2
    go_ret
    exact ⟨ret_int HE.out, (by (repeat (first | (with_reducible refine Below.drew ?_) | (with_reducible refine below_drewN ?_ _) | (with_reducible refine Below.alloc ?_ (by first | omega | (simp; done) | (simp; omega) | (simp at *; omega)) _) | (with_reducible refine Below.setCell ?_ (by first | omega | (simp; done) | (simp; omega) | (simp at *; omega)) _) | (with_reducible exact Below.refl _ _) | (with_reducible assumption) | (with_reducible refine Below.trans ?_ (Below.mono (by assumption) (by first | omega | (simp; done) | (simp; omega) | (simp at *; omega)))))))⟩
  rw [if_neg h12] at he
  have i0 : ¬ (12 : Int) < (n : Int) := by omega
  have HE := Lib.hid he
  clear he
  go_enter Tryz.func45, Tryz.ntmps45
  go_upto_region 1 with (fail)
  refine wp_world (ChS A B n m ca cb w) ⟨by simp [go_sem], by simp [go_sem], (by (repeat (first | (with_reducible refine Below.drew ?_) | (with_reducible refine below_drewN ?_ _) | (with_reducible refine Below.alloc ?_ (by first | omega | (simp; done) | (simp; omega) | (simp at *; omega)) _) | (with_reducible refine Below.setCell ?_ (by first | omega | (simp; done) | (simp; omega) | (simp at *; omega)) _) | (with_reducible exact Below.refl _ _) | (with_reducible assumption) | (with_reducible refine Below.trans ?_ (Below.mono (by assumption) (by first | omega | (simp; done) | (simp; omega) | (simp at *; omega))))))), by simp⟩ (fun u hu => ?_)
  have HS : Hid (∀ x, Below u.heap.size u x → ChS A B n m ca cb w x) := Lib.hid fun x hx => hu.below hx
  have HP : Hid (∀ x, Below u.heap.size u x → SlRows strV 1 x A Pl) := Lib.hid fun x hx => HP0.out.below (hu.below hx).be
  have HM : Hid (∀ x, Below u.heap.size u x → SlMat x B M) := Lib.hid fun x hx => HM0.out.below (hu.below hx).be
  obtain ⟨c0, c1, hBe, hlt⟩ := hu
  go_wp2
  go_loopw [4] (fun i wr => ∃ k : Nat, k ≤ n ∧ i = .int .i64 k ∧ Hid (nmlE (Pl.take k) (Pl.drop k) = nmlE [] Pl) ∧ Below u.heap.size u wr) (fun i _ => n - (intOf i).toNat)
  case atStart => exact ⟨0, by omega, rfl, Lib.hid rfl, (by (repeat (first | (with_reducible refine Below.drew ?_) | (with_reducible refine below_drewN ?_ _) | (with_reducible refine Below.alloc ?_ (by first | omega | (simp; done) | (simp; omega) | (simp at *; omega)) _) | (with_reducible refine Below.setCell ?_ (by first | omega | (simp; done) | (simp; omega) | (simp at *; omega)) _) | (with_reducible exact Below.refl _ _) | (with_reducible assumption) | (with_reducible refine Below.trans ?_ (Below.mono (by assumption) (by first | omega | (simp; done) | (simp; omega) | (simp at *; omega)))))))⟩
  case round =>
    obtain ⟨k, hk, rfl, hz, hB⟩ := hrel
    obtain ⟨d0, d1, hBd, hld⟩ := HS.out _ hB
    clear c0 c1 hBe hlt
    by_cases hkn : k < n
    · have kn : (k : Int) < (n : Int) := by omega
      have hkl : k < Pl.length := by have := hn.out; omega
      rcases HP.out _ hB with h0 | ⟨b, off, rfl, hbl, hR⟩
      · rw [h0] at hkl; simp at hkl
      have e0 := hR k hkl 0 (by omega)
      rw [show (strV Pl[k])[0]? = some (.string Pl[k]) from rfl, Nat.add_zero, Nat.mul_one] at e0
      have hz1 := hz.out
      rw [nmlE_at hkl] at hz1
      have hs1 := hsz.out Pl[k] (List.getElem_mem hkl)
      have hpart : Hid (∀ x, Below wr.heap.size wr x → SlRows strV 1 x (some ⟨b, off, none⟩) (Pl.take k)) := Lib.hid fun x hx => SlRows.part (HP.out x (hB.trans (hx.mono hB.size))) k
      have htl : Hid (k = (Pl.take k).length) := Lib.hid (by rw [List.length_take]; omega)
      have hsn : Hid (Pl.take k ++ [Pl[k]] = Pl.take (k + 1)) := Lib.hid (take_snoc hkl)
      obtain ⟨s, hs⟩ : ∃ s, Hid (Pl[k] = s) := ⟨_, Lib.hid rfl⟩
      rw [hs.out] at e0 hz1 hs1 hsn
      obtain ⟨Kn, hK⟩ : ∃ Kn, Hid (Pl.take k = Kn) := ⟨_, Lib.hid rfl⟩
      rw [hK.out] at hz1 hpart htl hsn
      have kc : k ≤ ca := by omega
      have kc2 : (k : Int) ≤ (ca : Int) := by omega
      have hsl : ∀ x : World, (Instr.slice 75 (.slice (some ⟨b, off, none⟩) n ca) none (some (.int .i64 k)) none).run Tryz.prog x = .ok (.slice (some ⟨b, off, none⟩) k ca) x := fun x => by simp [go_sem, kc2, Addr.add]
      clear hR hs hK
      cases hnb : nameB s with
      | false =>
        have h4 : nmsE Kn s = 4 := by unfold nmsE; rw [hnb]; rfl
        have hr : Hid (E = 4) := Lib.hid (by rw [h4, if_neg (by decide)] at hz1; rw [← HE.out, ← hz1]; rfl)
        have H1 := Lib.hid hnb
        clear hz hz1 h4 hnb
        go_wp2_with ((go_at_call 92; ((with_reducible refine (baseIsName_any _ _ _ hs1 H1).mono ?_)); rintro e w' ⟨rfl, rfl⟩))
        go_ret
        exact ⟨ret_int hr.out.symm, hBd⟩
      | true =>
        have H1 := Lib.hid hnb
        go_upto_region 9 with ((go_at_call 92; ((with_reducible refine (baseIsName_any _ _ _ hs1 H1).mono ?_)); rintro e w' ⟨rfl, rfl⟩))
        cases hin : inN s Kn with
        | true =>
          have h5 : nmsE Kn s = 5 := by unfold nmsE; rw [hnb, hin]; rfl
          have hr : Hid (E = 5) := Lib.hid (by rw [h5, if_neg (by decide)] at hz1; rw [← HE.out, ← hz1]; rfl)
          have H2 := Lib.hid hin
          clear hz hz1 h5 hnb hin
          refine wp_region_held_drew (S := (fun w' => w'.cell? ⟨w.heap.size, 0, none⟩ = some (.slice (some ⟨b, off, none⟩) n ca) ∧ w'.cell? ⟨b, off + k, none⟩ = some (.string s))) (by kernel_rfl) (by simp [go_sem, World.cell?_alloc_past, *]) (fun hHeld => ?_)
          refine tkH 0 ⟨some 25, _, _, _, _, _⟩ ?_ rfl ?_ (by assumption) ?_
          rotate_left
          · (intro w hSw; (try dsimp only at hSw); go_simp; all_goals with_reducible rfl)
          try simp only [Act.put, sA, sB, sC]
          refine tkH 1 ⟨some 26, _, _, _, _, _⟩ ?_ rfl ?_ (by assumption) ?_
          rotate_left
          · (intro w hSw; (try dsimp only at hSw); go_simp; all_goals with_reducible rfl)
          try simp only [Act.put, sA, sB, sC]
          refine tkH 2 ⟨some 27, _, _, _, _, _⟩ ?_ rfl ?_ (by assumption) ?_
          rotate_left
          · (intro w hSw; (try dsimp only at hSw); go_simp; all_goals with_reducible rfl)
          try simp only [Act.put, sA, sB, sC]
          refine tkH 3 ⟨some 28, _, _, _, _, _⟩ ?_ rfl ?_ (by assumption) ?_
          rotate_left
          · (intro w hSw; (try dsimp only at hSw); go_simp; all_goals with_reducible rfl)
          try simp only [Act.put, sA, sB, sC]
          refine tkH 4 ⟨some 29, _, _, _, _, _⟩ ?_ rfl ?_ (by assumption) ?_
          rotate_left
          · (intro w hSw; (try dsimp only at hSw); go_simp; all_goals with_reducible rfl)
          try simp only [Act.put, sA, sB, sC]
          refine tkH 5 ⟨some 30, _, _, _, _, _⟩ ?_ rfl ?_ (by assumption) ?_
          rotate_left
          · (intro w hSw; (try dsimp only at hSw); go_simp; all_goals with_reducible rfl)
          try simp only [Act.put, sA, sB, sC]
          refine tkH 6 ⟨some 31, _, _, _, _, _⟩ ?_ rfl ?_ (by assumption) ?_
          rotate_left
          · (intro w hSw; (try dsimp only at hSw); go_simp; all_goals with_reducible rfl)
          try simp only [Act.put, sA, sB, sC]
          refine tkH 7 ⟨some 32, _, _, _, _, _⟩ ?_ rfl ?_ (by assumption) ?_
          rotate_left
          · (intro w hSw; (try dsimp only at hSw); go_simp; all_goals with_reducible rfl)
          try simp only [Act.put, sA, sB, sC]
          refine tkH 8 ⟨some 33, _, _, _, _, _⟩ ?_ rfl ?_ (by assumption) ?_
          rotate_left
          · (intro w hSw; (try dsimp only at hSw); go_simp; all_goals with_reducible rfl)
          try simp only [Act.put, sA, sB, sC]
          refine wpAnyH_ready (rs := [9]) (by kernel_rfl) (by simp) ?_
          refine AllReadyH.cons rfl (fun K hK => ?_) AllReadyH.nil
          go_simp
          refine (hasText_any Kn s (some ⟨b, off, none⟩) k ca _ _ htl (by omega) (Lib.hid (hpart.out _ (by (repeat (first | (with_reducible refine Below.drew ?_) | (with_reducible refine below_drewN ?_ _) | (with_reducible refine Below.alloc ?_ (by first | omega | (simp; done) | (simp; omega) | (simp at *; omega)) _) | (with_reducible refine Below.setCell ?_ (by first | omega | (simp; done) | (simp; omega) | (simp at *; omega)) _) | (with_reducible exact Below.refl _ _) | (with_reducible assumption) | (with_reducible refine Below.trans ?_ (Below.mono (by assumption) (by first | omega | (simp; done) | (simp; omega) | (simp at *; omega))))))))) H2).mono ?_
          rintro e w' ⟨rfl, rfl⟩
          go_wp2_with fail
          refine hK.out _ _ (by simp [go_sem, World.cell?_alloc_past, *]) (fun hHeld => ?_)
          clear hK K
          try simp only [Act.put, sA, sB, sC]
          refine wpAnyH_done (by kernel_rfl) ?_ _
          go_wp2
          go_ret
          exact ⟨ret_int hr.out.symm, (by (repeat (first | (with_reducible refine Below.drew ?_) | (with_reducible refine below_drewN ?_ _) | (with_reducible refine Below.alloc ?_ (by first | omega | (simp; done) | (simp; omega) | (simp at *; omega)) _) | (with_reducible refine Below.setCell ?_ (by first | omega | (simp; done) | (simp; omega) | (simp at *; omega)) _) | (with_reducible exact Below.refl _ _) | (with_reducible assumption) | (with_reducible refine Below.trans ?_ (Below.mono (by assumption) (by first | omega | (simp; done) | (simp; omega) | (simp at *; omega)))))))⟩
        | false =>
          have h6 : nmsE Kn s = 0 := by unfold nmsE; rw [hnb, hin]; rfl
          have hz2 : Hid (nmlE (Pl.take (k + 1)) (Pl.drop (k + 1)) = nmlE [] Pl) := Lib.hid (by rw [h6, if_pos rfl, nmsK_0 h6, hsn.out] at hz1; exact hz1)
          have H2 := Lib.hid hin
          clear hz hz1 h6 hnb hin
          refine wp_region_held_drew (S := (fun w' => w'.cell? ⟨w.heap.size, 0, none⟩ = some (.slice (some ⟨b, off, none⟩) n ca) ∧ w'.cell? ⟨b, off + k, none⟩ = some (.string s))) (by kernel_rfl) (by simp [go_sem, World.cell?_alloc_past, *]) (fun hHeld => ?_)
          refine tkH 0 ⟨some 25, _, _, _, _, _⟩ ?_ rfl ?_ (by assumption) ?_
          rotate_left
          · (intro w hSw; (try dsimp only at hSw); go_simp; all_goals with_reducible rfl)
          try simp only [Act.put, sA, sB, sC]
          refine tkH 1 ⟨some 26, _, _, _, _, _⟩ ?_ rfl ?_ (by assumption) ?_
          rotate_left
          · (intro w hSw; (try dsimp only at hSw); go_simp; all_goals with_reducible rfl)
          try simp only [Act.put, sA, sB, sC]
          refine tkH 2 ⟨some 27, _, _, _, _, _⟩ ?_ rfl ?_ (by assumption) ?_
          rotate_left
          · (intro w hSw; (try dsimp only at hSw); go_simp; all_goals with_reducible rfl)
          try simp only [Act.put, sA, sB, sC]
          refine tkH 3 ⟨some 28, _, _, _, _, _⟩ ?_ rfl ?_ (by assumption) ?_
          rotate_left
          · (intro w hSw; (try dsimp only at hSw); go_simp; all_goals with_reducible rfl)
          try simp only [Act.put, sA, sB, sC]
          refine tkH 4 ⟨some 29, _, _, _, _, _⟩ ?_ rfl ?_ (by assumption) ?_
          rotate_left
          · (intro w hSw; (try dsimp only at hSw); go_simp; all_goals with_reducible rfl)
          try simp only [Act.put, sA, sB, sC]
          refine tkH 5 ⟨some 30, _, _, _, _, _⟩ ?_ rfl ?_ (by assumption) ?_
          rotate_left
          · (intro w hSw; (try dsimp only at hSw); go_simp; all_goals with_reducible rfl)
          try simp only [Act.put, sA, sB, sC]
          refine tkH 6 ⟨some 31, _, _, _, _, _⟩ ?_ rfl ?_ (by assumption) ?_
          rotate_left
          · (intro w hSw; (try dsimp only at hSw); go_simp; all_goals with_reducible rfl)
          try simp only [Act.put, sA, sB, sC]
          refine tkH 7 ⟨some 32, _, _, _, _, _⟩ ?_ rfl ?_ (by assumption) ?_
          rotate_left
          · (intro w hSw; (try dsimp only at hSw); go_simp; all_goals with_reducible rfl)
          try simp only [Act.put, sA, sB, sC]
          refine tkH 8 ⟨some 33, _, _, _, _, _⟩ ?_ rfl ?_ (by assumption) ?_
          rotate_left
          · (intro w hSw; (try dsimp only at hSw); go_simp; all_goals with_reducible rfl)
          try simp only [Act.put, sA, sB, sC]
          refine wpAnyH_ready (rs := [9]) (by kernel_rfl) (by simp) ?_
          refine AllReadyH.cons rfl (fun K hK => ?_) AllReadyH.nil
          go_simp
          refine (hasText_any Kn s (some ⟨b, off, none⟩) k ca _ _ htl (by omega) (Lib.hid (hpart.out _ (by (repeat (first | (with_reducible refine Below.drew ?_) | (with_reducible refine below_drewN ?_ _) | (with_reducible refine Below.alloc ?_ (by first | omega | (simp; done) | (simp; omega) | (simp at *; omega)) _) | (with_reducible refine Below.setCell ?_ (by first | omega | (simp; done) | (simp; omega) | (simp at *; omega)) _) | (with_reducible exact Below.refl _ _) | (with_reducible assumption) | (with_reducible refine Below.trans ?_ (Below.mono (by assumption) (by first | omega | (simp; done) | (simp; omega) | (simp at *; omega))))))))) H2).mono ?_
          rintro e w' ⟨rfl, rfl⟩
          go_wp2_with fail
          refine hK.out _ _ (by simp [go_sem, World.cell?_alloc_past, *]) (fun hHeld => ?_)
          clear hK K
          try simp only [Act.put, sA, sB, sC]
          refine wpAnyH_done (by kernel_rfl) ?_ _
          go_wp2
          go_roundw
          case rel => exact ⟨k + 1, by omega, by go_num, hz2, (by (repeat (first | (with_reducible refine Below.drew ?_) | (with_reducible refine below_drewN ?_ _) | (with_reducible refine Below.alloc ?_ (by first | omega | (simp; done) | (simp; omega) | (simp at *; omega)) _) | (with_reducible refine Below.setCell ?_ (by first | omega | (simp; done) | (simp; omega) | (simp at *; omega)) _) | (with_reducible exact Below.refl _ _) | (with_reducible assumption) | (with_reducible refine Below.trans ?_ (Below.mono (by assumption) (by first | omega | (simp; done) | (simp; omega) | (simp at *; omega)))))))⟩
          case measure => (simp [intOf]) <;> omega
    · have hkk : k = n := by omega
      have hz0 : Hid (nmlE [] Pl = 0) := Lib.hid (by rw [← hz.out, List.drop_of_length_le (by have := hn.out; omega)]; rfl)
      have HE2 : Hid ((if m ≠ n ∨ othB n M = true then 10 else minsE M n) = E) := Lib.hid (by have h9 := HE.out; rw [if_pos hz0.out] at h9; exact h9)
      clear hz HE hkk hz0
      rename World => w5
      have HSX : Hid (∀ x, Below w5.heap.size w5 x → ChS A B n m ca cb w x) := Lib.hid fun x hx => HS.out _ (hB.trans (hx.mono hB.size))
      have HMX : Hid (∀ x, Below w5.heap.size w5 x → SlMat x B M) := Lib.hid fun x hx => HM.out _ (hB.trans (hx.mono hB.size))
      clear HS HM HP hB
      by_cases hmn : m = n
      · subst hmn
        go_wp2
        go_loopw [5] (fun i wr => ∃ k : Nat, k ≤ m ∧ i = .int .i64 k ∧ Hid (∀ j, j < k → (M.getD j []).length = m) ∧ Below w5.heap.size w5 wr) (fun i _ => m - (intOf i).toNat)
        case atStart => exact ⟨0, by omega, rfl, Lib.hid fun j hj => by omega, (by (repeat (first | (with_reducible refine Below.drew ?_) | (with_reducible refine below_drewN ?_ _) | (with_reducible refine Below.alloc ?_ (by first | omega | (simp; done) | (simp; omega) | (simp at *; omega)) _) | (with_reducible refine Below.setCell ?_ (by first | omega | (simp; done) | (simp; omega) | (simp at *; omega)) _) | (with_reducible exact Below.refl _ _) | (with_reducible assumption) | (with_reducible refine Below.trans ?_ (Below.mono (by assumption) (by first | omega | (simp; done) | (simp; omega) | (simp at *; omega)))))))⟩
        case round =>
          obtain ⟨k2, hk2, rfl, hy, hB2⟩ := hrel
          obtain ⟨f0, f1, hBf, hlf⟩ := HSX.out _ hB2
          by_cases hk2n : k2 < m
          · have kn : (k2 : Int) < (m : Int) := by omega
            have hkl : k2 < M.length := by have := hm.out; omega
            rcases HMX.out _ hB2 with h0 | ⟨b, off, rfl, hbl, hMt⟩
            · rw [h0] at hkl; simp at hkl
            obtain ⟨C, cq, h1, _⟩ := hMt k2 hkl
            obtain ⟨q, hq⟩ : ∃ q, Hid ((M.getD k2 []).length = q) := ⟨_, Lib.hid rfl⟩
            rw [hq.out] at h1
            clear hMt
            by_cases hqn : q = m
            · have hy2 : Hid (∀ j, j < k2 + 1 → (M.getD j []).length = m) := Lib.hid fun j hj => by
                by_cases e : j = k2
                · rw [e, hq.out, hqn]
                · exact hy.out j (by omega)
              rw [hqn] at h1
              clear hy hq hqn
              go_wp2
              go_roundw
              case rel => exact ⟨k2 + 1, by omega, by go_num, hy2, (by (repeat (first | (with_reducible refine Below.drew ?_) | (with_reducible refine below_drewN ?_ _) | (with_reducible refine Below.alloc ?_ (by first | omega | (simp; done) | (simp; omega) | (simp at *; omega)) _) | (with_reducible refine Below.setCell ?_ (by first | omega | (simp; done) | (simp; omega) | (simp at *; omega)) _) | (with_reducible exact Below.refl _ _) | (with_reducible assumption) | (with_reducible refine Below.trans ?_ (Below.mono (by assumption) (by first | omega | (simp; done) | (simp; omega) | (simp at *; omega)))))))⟩
              case measure => (simp [intOf]) <;> omega
            · have hr : Hid (E = 10) := Lib.hid (by rw [← HE2.out, if_pos (Or.inr (othB_t hkl (by rw [hq.out]; exact hqn)))])
              have e1 : ¬ (q : Int) = (m : Int) := by omega
              have e2 : ((q : Int) == (m : Int)) = false := by simpa using e1
              clear hy hq
              go_wp2
              go_ret
              exact ⟨ret_int hr.out.symm, hBf⟩
          · have hkk : k2 = m := by omega
            have hsq : Hid (∀ x, Below w5.heap.size w5 x → SqAt x B m M) := Lib.hid fun x hx => ⟨hm.out.symm, fun i hi => hy.out i (by omega), HMX.out x hx⟩
            have hmE : Hid (minsE M m = E) := Lib.hid (by rw [← HE2.out, if_neg (fun h => h.elim (fun h => h rfl) (fun h => by rw [othB_f fun j hj => hy.out j (by have := hm.out; omega)] at h; cases h))])
            clear hy hkk HE2 HMX
            rename World => w6
            have HSY : Hid (∀ x, Below w6.heap.size w6 x → ChS A B m m ca cb w x) := Lib.hid fun x hx => HSX.out _ (hB2.trans (hx.mono hB2.size))
            have HSQ : Hid (∀ x, Below w6.heap.size w6 x → SqAt x B m M) := Lib.hid fun x hx => hsq.out _ (hB2.trans (hx.mono hB2.size))
            clear HSX hsq hB2 d0 d1 hBd hld f0 f1 hBf hlf
            obtain ⟨f0, f1, hBf, hlf⟩ := HSY.out _ (Below.refl _ _)
            go_wp2
            go_loopw [6] (fun i wr => ∃ k : Nat, k ≤ m ∧ i = .int .i64 k ∧ Hid (fsN (rowE M m) k = 0) ∧ Below w6.heap.size w6 wr) (fun i _ => m - (intOf i).toNat)
            case atStart => exact ⟨0, by omega, rfl, Lib.hid rfl, (by (repeat (first | (with_reducible refine Below.drew ?_) | (with_reducible refine below_drewN ?_ _) | (with_reducible refine Below.alloc ?_ (by first | omega | (simp; done) | (simp; omega) | (simp at *; omega)) _) | (with_reducible refine Below.setCell ?_ (by first | omega | (simp; done) | (simp; omega) | (simp at *; omega)) _) | (with_reducible exact Below.refl _ _) | (with_reducible assumption) | (with_reducible refine Below.trans ?_ (Below.mono (by assumption) (by first | omega | (simp; done) | (simp; omega) | (simp at *; omega)))))))⟩
            case round =>
              obtain ⟨i, hi, rfl, hv, hB3⟩ := hrel
              clear f0 f1 hBf hlf
              obtain ⟨f0, f1, hBf, hlf⟩ := HSY.out _ hB3
              by_cases hin : i < m
              · have kn : (i : Int) < (m : Int) := by omega
                rename World => w7
                go_wp2
                go_loopw [7] (fun j wr => ∃ q : Nat, q ≤ m ∧ j = .int .i64 q ∧ Hid (fsN (fun j => celE i j (mAt M i j)) q = 0) ∧ Below w6.heap.size w6 wr) (fun j _ => m - (intOf j).toNat)
                case atStart => exact ⟨0, by omega, rfl, Lib.hid rfl, (by (repeat (first | (with_reducible refine Below.drew ?_) | (with_reducible refine below_drewN ?_ _) | (with_reducible refine Below.alloc ?_ (by first | omega | (simp; done) | (simp; omega) | (simp at *; omega)) _) | (with_reducible refine Below.setCell ?_ (by first | omega | (simp; done) | (simp; omega) | (simp at *; omega)) _) | (with_reducible exact Below.refl _ _) | (with_reducible assumption) | (with_reducible refine Below.trans ?_ (Below.mono (by assumption) (by first | omega | (simp; done) | (simp; omega) | (simp at *; omega)))))))⟩
                case round =>
                  obtain ⟨q, hq, rfl, hy, hB4⟩ := hrel
                  clear f0 f1 hBf hlf
                  obtain ⟨f0, f1, hBf, hlf⟩ := HSY.out _ hB4
                  by_cases hqn : q < m
                  · have qn : (q : Int) < (m : Int) := by omega
                    obtain ⟨b, off, c, o, cap, rfl, hb, h1, hcb, hj⟩ := (HSQ.out _ hB4).at hin
                    have hx := hj q hqn
                    clear hj
                    obtain ⟨x, hxx⟩ : ∃ x, Hid (mAt M i q = x) := ⟨_, Lib.hid rfl⟩
                    rw [hxx.out] at hx
                    have bad : ∀ v : Int, celE i q x = v → v ≠ 0 → E = v := fun v h1 h2 => by
                      have h3 : rowE M m i = v := by
                        unfold rowE
                        rw [fsN_stop hy.out (by rw [hxx.out, h1]; exact h2) m hqn, hxx.out, h1]
                      rw [← hmE.out]
                      unfold minsE
                      rw [fsN_stop hv.out (by rw [h3]; exact h2) m hin, h3]
                    rcases inB_cases x (-1) 10000 with hr | hr
                    · have hr0 : rngE x (-1) 10000 = 0 := rngE_t hr
                      have HR := Lib.hid hr
                      by_cases e : i = q
                      · by_cases hx0 : x = 0
                        · have hy2 : Hid (fsN (fun j => celE i j (mAt M i j)) (q + 1) = 0) := Lib.hid (fsN_on hy.out (by show celE i q (mAt M i q) = 0; rw [hxx.out]; unfold celE; rw [if_pos hr0, if_neg (fun h => h.2 hx0)]))
                          subst hx0
                          subst e
                          clear hy bad hxx hr hr0
                          go_wp2_with ((go_at_call 23; ((with_reducible refine (bWth_is _ _ _ _ _ HR).mono ?_)); rintro e w' ⟨rfl, rfl⟩))
                          go_roundw
                          case rel => exact ⟨i + 1, by omega, by go_num, hy2, (by (repeat (first | (with_reducible refine Below.drew ?_) | (with_reducible refine below_drewN ?_ _) | (with_reducible refine Below.alloc ?_ (by first | omega | (simp; done) | (simp; omega) | (simp at *; omega)) _) | (with_reducible refine Below.setCell ?_ (by first | omega | (simp; done) | (simp; omega) | (simp at *; omega)) _) | (with_reducible exact Below.refl _ _) | (with_reducible assumption) | (with_reducible refine Below.trans ?_ (Below.mono (by assumption) (by first | omega | (simp; done) | (simp; omega) | (simp at *; omega)))))))⟩
                          case measure => (simp [intOf]) <;> omega
                        · have hr3 : Hid (E = 3) := Lib.hid (bad 3 (by unfold celE; rw [if_pos hr0, if_pos ⟨e, hx0⟩]) (by omega))
                          have x1 : (x == 0) = false := by simpa using hx0
                          subst e
                          clear hy bad hxx hr hv
                          go_wp2_with ((go_at_call 23; ((with_reducible refine (bWth_is _ _ _ _ _ HR).mono ?_)); rintro e w' ⟨rfl, rfl⟩))
                          go_ret
                          exact ⟨ret_int hr3.out.symm, (by (repeat (first | (with_reducible refine Below.drew ?_) | (with_reducible refine below_drewN ?_ _) | (with_reducible refine Below.alloc ?_ (by first | omega | (simp; done) | (simp; omega) | (simp at *; omega)) _) | (with_reducible refine Below.setCell ?_ (by first | omega | (simp; done) | (simp; omega) | (simp at *; omega)) _) | (with_reducible exact Below.refl _ _) | (with_reducible assumption) | (with_reducible refine Below.trans ?_ (Below.mono (by assumption) (by first | omega | (simp; done) | (simp; omega) | (simp at *; omega)))))))⟩
                      · have hy2 : Hid (fsN (fun j => celE i j (mAt M i j)) (q + 1) = 0) := Lib.hid (fsN_on hy.out (by show celE i q (mAt M i q) = 0; rw [hxx.out]; unfold celE; rw [if_pos hr0, if_neg (fun h => e h.1)]))
                        have e1 : ((i : Int) == (q : Int)) = false := by simpa using (by omega : ¬ (i : Int) = (q : Int))
                        have e2 : ¬ (i : Int) = (q : Int) := by omega
                        clear hy bad hxx hr e
                        go_wp2_with ((go_at_call 23; ((with_reducible refine (bWth_is _ _ _ _ _ HR).mono ?_)); rintro e w' ⟨rfl, rfl⟩))
                        go_roundw
                        case rel => exact ⟨q + 1, by omega, by go_num, hy2, (by (repeat (first | (with_reducible refine Below.drew ?_) | (with_reducible refine below_drewN ?_ _) | (with_reducible refine Below.alloc ?_ (by first | omega | (simp; done) | (simp; omega) | (simp at *; omega)) _) | (with_reducible refine Below.setCell ?_ (by first | omega | (simp; done) | (simp; omega) | (simp at *; omega)) _) | (with_reducible exact Below.refl _ _) | (with_reducible assumption) | (with_reducible refine Below.trans ?_ (Below.mono (by assumption) (by first | omega | (simp; done) | (simp; omega) | (simp at *; omega)))))))⟩
                        case measure => (simp [intOf]) <;> omega
                    · have hr3 : Hid (E = 2) := Lib.hid (bad 2 (by unfold celE; rw [rngE_f hr]; rfl) (by omega))
                      have HR := Lib.hid hr
                      clear hy bad hxx hr hv
                      go_wp2_with ((go_at_call 23; ((with_reducible refine (bWth_is _ _ _ _ _ HR).mono ?_)); rintro e w' ⟨rfl, rfl⟩))
                      go_ret
                      exact ⟨ret_int hr3.out.symm, (by (repeat (first | (with_reducible refine Below.drew ?_) | (with_reducible refine below_drewN ?_ _) | (with_reducible refine Below.alloc ?_ (by first | omega | (simp; done) | (simp; omega) | (simp at *; omega)) _) | (with_reducible refine Below.setCell ?_ (by first | omega | (simp; done) | (simp; omega) | (simp at *; omega)) _) | (with_reducible exact Below.refl _ _) | (with_reducible assumption) | (with_reducible refine Below.trans ?_ (Below.mono (by assumption) (by first | omega | (simp; done) | (simp; omega) | (simp at *; omega)))))))⟩
                  · have hqq : q = m := by omega
                    have hv2 : Hid (fsN (rowE M m) (i + 1) = 0) := Lib.hid (fsN_on hv.out (by unfold rowE; rw [← hqq]; exact hy.out))
                    clear hv hy hqq
                    go_wp2
                    go_roundw
                    case rel => exact ⟨i + 1, by omega, by go_num, hv2, (by (repeat (first | (with_reducible refine Below.drew ?_) | (with_reducible refine below_drewN ?_ _) | (with_reducible refine Below.alloc ?_ (by first | omega | (simp; done) | (simp; omega) | (simp at *; omega)) _) | (with_reducible refine Below.setCell ?_ (by first | omega | (simp; done) | (simp; omega) | (simp at *; omega)) _) | (with_reducible exact Below.refl _ _) | (with_reducible assumption) | (with_reducible refine Below.trans ?_ (Below.mono (by assumption) (by first | omega | (simp; done) | (simp; omega) | (simp at *; omega)))))))⟩
                    case measure => (simp [intOf]) <;> omega
              · have hii : i = m := by omega
                have hr : Hid (E = 0) := Lib.hid (by have h9 := hv.out; rw [hii] at h9; rw [← hmE.out]; exact h9)
                clear hv hii
                go_wp2
                go_ret
                exact ⟨ret_int hr.out.symm, hBf⟩
      · have hr : Hid (E = 10) := Lib.hid (by rw [← HE2.out, if_pos (Or.inl hmn)])
        have e1 : ¬ (m : Int) = (n : Int) := by omega
        have e2 : ((m : Int) == (n : Int)) = false := by simpa using e1
        go_wp2
        go_ret
        exact ⟨ret_int hr.out.symm, (by (repeat (first | (with_reducible refine Below.drew ?_) | (with_reducible refine below_drewN ?_ _) | (with_reducible refine Below.alloc ?_ (by first | omega | (simp; done) | (simp; omega) | (simp at *; omega)) _) | (with_reducible refine Below.setCell ?_ (by first | omega | (simp; done) | (simp; omega) | (simp at *; omega)) _) | (with_reducible exact Below.refl _ _) | (with_reducible assumption) | (with_reducible refine Below.trans ?_ (Below.mono (by assumption) (by first | omega | (simp; done) | (simp; omega) | (simp at *; omega)))))))⟩
end Go.Proofs.YtojaompfffpofaaGreat
