import Derived.Test.YtojaompfffpofaaGreatZASCat
import Derived.Outline
namespace Go.Proofs.YtojaompfffpofaaGreat
open Go.ChangeShapes Go.WideShapes Go.ChangeAt Go.RowKit
set_option linter.unusedVariables false
set_option linter.unusedSimpArgs false
attribute [local go_sem ↓] Go.wp_at_zero Go.wp_at_succ
theorem minE_cases (a b : Int) : (inB a 0 1000000 = false ∧ minE a b = 2) ∨ (inB a 0 1000000 = true ∧ inB b 0 1000000 = false ∧ minE a b = 2) ∨ (inB a 0 1000000 = true ∧ inB b 0 1000000 = true ∧ minE a b = 0) := by
  unfold minE
  rcases inB_cases a 0 1000000 with h1 | h1
  · rcases inB_cases b 0 1000000 with h2 | h2
    · right; right; rw [rngE_t h1, rngE_t h2]; exact ⟨h1, h2, rfl⟩
    · right; left; rw [rngE_t h1, rngE_f h2]; exact ⟨h1, h2, rfl⟩
  · left; rw [rngE_f h1]; exact ⟨h1, rfl⟩
set_option maxRecDepth 100000 in
set_option maxHeartbeats 2000000 in
theorem refWindows_is (L : List Rg) (A : Option Addr) (cap n : Nat) (E : Int) (w : World) (hn : Hid (n = L.length)) (hl : n ≤ 1000000) (hL : SlRows rgV 2 w A L) (hE : Hid (winE L = E)) :
    Calls Tryz.prog 30 #[.slice A n cap] w fun e w' => e = .returned (.int .i64 E) ∧ Below w.heap.size w w' := by
  have he := hE.out
  unfold winE at he
  rw [← hn.out] at he
  clear hE
  by_cases h60 : n ≤ 60
  · rw [if_pos h60] at he
    have HE := Lib.hid he
    have i0 : ¬ (60 : Int) < (n : Int) := by omega
    clear he h60
    have HR : Hid (∀ w' : World, Below w.heap.size w w' → SlRows rgV 2 w' A L) := Lib.hid fun w' hB => hL.below hB
    clear hL
    go_enter Tryz.func30, Tryz.ntmps30
    go_wp2
    go_loopw [3] (fun i wr => ∃ k : Nat, k ≤ n ∧ i = .int .i64 k ∧ Hid (fstW L k = 0) ∧ Below w.heap.size w wr) (fun i _ => n - (intOf i).toNat)
    case atStart => exact ⟨0, by omega, rfl, Lib.hid rfl, (by (repeat (first | (with_reducible refine Below.drew ?_) | (with_reducible refine below_drewN ?_ _) | (with_reducible refine Below.alloc ?_ (by first | omega | (simp; done) | (simp; omega) | (simp at *; omega)) _) | (with_reducible refine Below.setCell ?_ (by first | omega | (simp; done) | (simp; omega) | (simp at *; omega)) _) | (with_reducible exact Below.refl _ _) | (with_reducible assumption) | (with_reducible refine Below.trans ?_ (Below.mono (by assumption) (by first | omega | (simp; done) | (simp; omega) | (simp at *; omega)))))))⟩
    case round =>
      obtain ⟨k, hk, rfl, hz, hB⟩ := hrel
      have hsz := hB.size
      by_cases hkn : k < n
      · have hkl : k < L.length := by have := hn.out; omega
        have kn : (k : Int) < (n : Int) := by omega
        rcases HR.out _ hB with h0 | ⟨bl, off, rfl, hlt, hR⟩
        · rw [h0] at hkl; simp at hkl
        obtain ⟨c0, c1⟩ := rg_at hR hkl
        have hcl := clsB_cases L k
        obtain ⟨⟨a, b⟩, hx⟩ : ∃ x, Hid (L.getD k default = x) := ⟨_, Lib.hid rfl⟩
        rw [hx.out] at c0 c1 hcl
        dsimp only at c0 c1 hcl
        have stop : ∀ v : Int, winF L k = v → v ≠ 0 → E = v := fun v h1 h2 => by rw [← HE.out, fstW_stop hz.out (by rw [h1]; exact h2) n hkn, h1]
        rcases minE_cases a b with ⟨m1, m2⟩ | ⟨m1, m2, m3⟩ | ⟨m1, m2, m3⟩
        · have hr : Hid (E = 2) := Lib.hid (stop 2 (by unfold winF endE; rw [hx.out]; dsimp only; rw [m2]; rfl) (by omega))
          have h1 := Lib.hid m1
          clear m1 m2 hcl hz hR stop
          go_wp2_with ((go_at_call 39; ((with_reducible refine (isMin_is _ _ _ h1).mono ?_)); rintro e w' ⟨rfl, rfl⟩))
          go_ret
          exact ⟨ret_int hr.out.symm, (by (repeat (first | (with_reducible refine Below.drew ?_) | (with_reducible refine below_drewN ?_ _) | (with_reducible refine Below.alloc ?_ (by first | omega | (simp; done) | (simp; omega) | (simp at *; omega)) _) | (with_reducible refine Below.setCell ?_ (by first | omega | (simp; done) | (simp; omega) | (simp at *; omega)) _) | (with_reducible exact Below.refl _ _) | (with_reducible assumption) | (with_reducible refine Below.trans ?_ (Below.mono (by assumption) (by first | omega | (simp; done) | (simp; omega) | (simp at *; omega)))))))⟩
        · have hr : Hid (E = 2) := Lib.hid (stop 2 (by unfold winF endE; rw [hx.out]; dsimp only; rw [m3]; rfl) (by omega))
          have h1 := Lib.hid m1
          have h2 := Lib.hid m2
          clear m1 m2 m3 hcl hz hR stop
          go_wp2_with (first | (go_at_call 39; ((with_reducible refine (isMin_is _ _ _ h1).mono ?_)); rintro e w' ⟨rfl, rfl⟩) | (go_at_call 39; ((with_reducible refine (isMin_is _ _ _ h2).mono ?_)); rintro e w' ⟨rfl, rfl⟩))
          go_ret
          exact ⟨ret_int hr.out.symm, (by (repeat (first | (with_reducible refine Below.drew ?_) | (with_reducible refine below_drewN ?_ _) | (with_reducible refine Below.alloc ?_ (by first | omega | (simp; done) | (simp; omega) | (simp at *; omega)) _) | (with_reducible refine Below.setCell ?_ (by first | omega | (simp; done) | (simp; omega) | (simp at *; omega)) _) | (with_reducible exact Below.refl _ _) | (with_reducible assumption) | (with_reducible refine Below.trans ?_ (Below.mono (by assumption) (by first | omega | (simp; done) | (simp; omega) | (simp at *; omega)))))))⟩
        · have h1 := Lib.hid m1
          have h2 := Lib.hid m2
          by_cases hba : b < a
          · have hr : Hid (E = 9) := Lib.hid (stop 9 (by unfold winF endE; rw [hx.out]; dsimp only; rw [if_pos m3, if_pos hba]; rfl) (by omega))
            clear m1 m2 m3 hcl hz hR stop
            go_wp2_with (first | (go_at_call 39; ((with_reducible refine (isMin_is _ _ _ h1).mono ?_)); rintro e w' ⟨rfl, rfl⟩) | (go_at_call 39; ((with_reducible refine (isMin_is _ _ _ h2).mono ?_)); rintro e w' ⟨rfl, rfl⟩))
            go_big_quiet (fail)
            go_wp2
            go_ret
            exact ⟨ret_int hr.out.symm, (by (repeat (first | (with_reducible refine Below.drew ?_) | (with_reducible refine below_drewN ?_ _) | (with_reducible refine Below.alloc ?_ (by first | omega | (simp; done) | (simp; omega) | (simp at *; omega)) _) | (with_reducible refine Below.setCell ?_ (by first | omega | (simp; done) | (simp; omega) | (simp at *; omega)) _) | (with_reducible exact Below.refl _ _) | (with_reducible assumption) | (with_reducible refine Below.trans ?_ (Below.mono (by assumption) (by first | omega | (simp; done) | (simp; omega) | (simp at *; omega)))))))⟩
          · have hend : Hid (endE ⟨a, b⟩ = 0) := Lib.hid (by unfold endE; dsimp only; rw [if_pos m3, if_neg hba])
            clear m1 m2 m3
            rcases hcl with ⟨hk0, hc⟩ | ⟨hk0, hh, hc⟩ | ⟨hk0, hh, hc⟩
            · have hW : Hid (fstW L (k + 1) = 0) := Lib.hid (by rw [fstW, if_pos hz.out]; unfold winF; rw [hx.out, if_pos hend.out, hc]; simp)
              have j0 : decide ((0 : Int) < (k : Int)) = false := by simp; omega
              have j0n : decide (0 < k) = false := by simp; omega
              clear hk0 hc hz hR stop
              go_wp2_with (first | (go_at_call 39; ((with_reducible refine (isMin_is _ _ _ h1).mono ?_)); rintro e w' ⟨rfl, rfl⟩) | (go_at_call 39; ((with_reducible refine (isMin_is _ _ _ h2).mono ?_)); rintro e w' ⟨rfl, rfl⟩))
              go_big_quiet (fail)
              go_wp2
              go_big_quiet (fail)
              go_wp2
              go_roundw
              case rel => exact ⟨k + 1, by omega, by go_num, hW, (by (repeat (first | (with_reducible refine Below.drew ?_) | (with_reducible refine below_drewN ?_ _) | (with_reducible refine Below.alloc ?_ (by first | omega | (simp; done) | (simp; omega) | (simp at *; omega)) _) | (with_reducible refine Below.setCell ?_ (by first | omega | (simp; done) | (simp; omega) | (simp at *; omega)) _) | (with_reducible exact Below.refl _ _) | (with_reducible assumption) | (with_reducible refine Below.trans ?_ (Below.mono (by assumption) (by first | omega | (simp; done) | (simp; omega) | (simp at *; omega)))))))⟩
              case measure => (simp [intOf]) <;> omega
            all_goals
              obtain ⟨c2, c3⟩ := rg_at hR (show k - 1 < L.length by omega)
              obtain ⟨⟨a2, b2⟩, hx2⟩ : ∃ x, Hid (L.getD (k - 1) default = x) := ⟨_, Lib.hid rfl⟩
              have hbd := fstW_hi hz.out (show k - 1 < k by omega)
              rw [hx2.out] at c2 c3 hh hbd
              dsimp only at c2 c3 hh hbd
              obtain ⟨hbd0, hbd1⟩ := hbd
              have j0 : decide ((0 : Int) < (k : Int)) = true := by simp; omega
              have j0n : decide (0 < k) = true := by simp; omega
              have j1 : IntKind.i64.wrap ((k : Int) - 1) = (k : Int) - 1 := IntWalk.i64_in _ (by omega)
              have j2 : (0 : Int) ≤ (k : Int) - 1 := by omega
              have j3 : ((k : Int) - 1).toNat = k - 1 := by omega
              have j4 : (k : Int) - 1 < (n : Int) := by omega
              have j5 : IntKind.i64.wrap (b2 + 1) = b2 + 1 := IntWalk.i64_in _ (by omega)
            · have hr : Hid (E = 13) := Lib.hid (stop 13 (by unfold winF; rw [hx.out, if_pos hend.out, hc]; rfl) (by omega))
              have j6 : decide (a ≤ b2 + 1) = true := by simpa using hh
              clear hc hz hR stop
              go_wp2_with (first | (go_at_call 39; ((with_reducible refine (isMin_is _ _ _ h1).mono ?_)); rintro e w' ⟨rfl, rfl⟩) | (go_at_call 39; ((with_reducible refine (isMin_is _ _ _ h2).mono ?_)); rintro e w' ⟨rfl, rfl⟩))
              go_big_quiet (fail)
              go_wp2
              go_big_quiet (fail)
              go_wp2
              go_ret
              exact ⟨ret_int hr.out.symm, (by (repeat (first | (with_reducible refine Below.drew ?_) | (with_reducible refine below_drewN ?_ _) | (with_reducible refine Below.alloc ?_ (by first | omega | (simp; done) | (simp; omega) | (simp at *; omega)) _) | (with_reducible refine Below.setCell ?_ (by first | omega | (simp; done) | (simp; omega) | (simp at *; omega)) _) | (with_reducible exact Below.refl _ _) | (with_reducible assumption) | (with_reducible refine Below.trans ?_ (Below.mono (by assumption) (by first | omega | (simp; done) | (simp; omega) | (simp at *; omega)))))))⟩
            · have hW : Hid (fstW L (k + 1) = 0) := Lib.hid (by rw [fstW, if_pos hz.out]; unfold winF; rw [hx.out, if_pos hend.out, hc]; simp)
              have j6 : decide (a ≤ b2 + 1) = false := by simpa using hh
              clear hc hz hR stop
              go_wp2_with (first | (go_at_call 39; ((with_reducible refine (isMin_is _ _ _ h1).mono ?_)); rintro e w' ⟨rfl, rfl⟩) | (go_at_call 39; ((with_reducible refine (isMin_is _ _ _ h2).mono ?_)); rintro e w' ⟨rfl, rfl⟩))
              go_big_quiet (fail)
              go_wp2
              go_big_quiet (fail)
              go_wp2
              go_roundw
              case rel => exact ⟨k + 1, by omega, by go_num, hW, (by (repeat (first | (with_reducible refine Below.drew ?_) | (with_reducible refine below_drewN ?_ _) | (with_reducible refine Below.alloc ?_ (by first | omega | (simp; done) | (simp; omega) | (simp at *; omega)) _) | (with_reducible refine Below.setCell ?_ (by first | omega | (simp; done) | (simp; omega) | (simp at *; omega)) _) | (with_reducible exact Below.refl _ _) | (with_reducible assumption) | (with_reducible refine Below.trans ?_ (Below.mono (by assumption) (by first | omega | (simp; done) | (simp; omega) | (simp at *; omega)))))))⟩
              case measure => (simp [intOf]) <;> omega
      · have hkk : k = n := by omega
        have hr : Hid (E = 0) := Lib.hid (by rw [← HE.out, ← hkk]; exact hz.out)
        clear hz hkk
        go_wp2
        go_ret
        exact ⟨ret_int hr.out.symm, (by (repeat (first | (with_reducible refine Below.drew ?_) | (with_reducible refine below_drewN ?_ _) | (with_reducible refine Below.alloc ?_ (by first | omega | (simp; done) | (simp; omega) | (simp at *; omega)) _) | (with_reducible refine Below.setCell ?_ (by first | omega | (simp; done) | (simp; omega) | (simp at *; omega)) _) | (with_reducible exact Below.refl _ _) | (with_reducible assumption) | (with_reducible refine Below.trans ?_ (Below.mono (by assumption) (by first | omega | (simp; done) | (simp; omega) | (simp at *; omega)))))))⟩
  · rw [if_neg h60] at he
    have HE := Lib.hid he
    have i0 : (60 : Int) < (n : Int) := by omega
    clear he
    go_enter Tryz.func30, Tryz.ntmps30
    go_wp2
    go_ret
    exact ⟨ret_int HE.out, (by (repeat (first | (with_reducible refine Below.drew ?_) | (with_reducible refine below_drewN ?_ _) | (with_reducible refine Below.alloc ?_ (by first | omega | (simp; done) | (simp; omega) | (simp at *; omega)) _) | (with_reducible refine Below.setCell ?_ (by first | omega | (simp; done) | (simp; omega) | (simp at *; omega)) _) | (with_reducible exact Below.refl _ _) | (with_reducible assumption) | (with_reducible refine Below.trans ?_ (Below.mono (by assumption) (by first | omega | (simp; done) | (simp; omega) | (simp at *; omega)))))))⟩
end Go.Proofs.YtojaompfffpofaaGreat
