/- What gas.PressureAt, gas.Partial and their specifications return. -/
import Derived.Test.YtebieflnlmdllaaDoorDep
import Derived.LoopN
import Derived.Outline
namespace Go.Proofs.YtebieflnlmdllaaDoor
open Go.ChangeShapes Go.WideShapes Go.ChangeAt Go.RowKit
set_option linter.unusedVariables false

def plE (s d : Int) : Int := firE [rngE s 400 1100, rngE d 0 30000]
def plP (s d : Int) : Int := if plE s d = 0 then s + d else 0
theorem PressureAt_any (s d : Int) (w : World) :
    Calls Tryd.prog 24 #[.int .i64 s, .int .i64 d] w fun e w' => e = .returned (.tuple #[.int .i64 (plP s d), .int .i64 (plE s d)]) ∧ Below w.heap.size w w' := by
  rcases ez (plE s d) with ⟨h, hb⟩ | ⟨h, hb⟩
  · obtain ⟨h1, h2⟩ := firE2_z (show firE [rngE s 400 1100, rngE d 0 30000] = 0 from h.out)
    obtain ⟨k1, k2⟩ := rngE_z h1
    obtain ⟨k3, k4⟩ := rngE_z h2
    have hp : Hid (plP s d = s + d) := if_pos h.out
    have he : Hid (plE s d = 0) := h.out
    rw [hp.out, he.out]
    unfold plE at hb
    clear h1 h2 h
    go_enter Tryd.func24, Tryd.ntmps24
    go_wp2_with (first | (go_at_call 71; ((with_reducible refine (checkSurface_any _ _).mono ?_)); rintro e w' ⟨rfl, rfl⟩) | (go_at_call 72; ((with_reducible refine (checkDepth_any _ _).mono ?_)); rintro e w' ⟨rfl, rfl⟩) | (go_at_call 70; ((with_reducible refine (firstOf2c (rngE s 400 1100) (rngE d 0 30000) _ _ (by simp [go_sem]) (by simp [go_sem])).mono ?_)); rintro e w' ⟨rfl, rfl⟩))
    go_ret2
    exact ⟨rfl, (by (repeat (first | (with_reducible refine Below.drew ?_) | (with_reducible refine below_drewN ?_ _) | (with_reducible refine Below.alloc ?_ (by first | omega | (simp; done) | (simp; omega) | (simp at *; omega)) _) | (with_reducible refine Below.setCell ?_ (by first | omega | (simp; done) | (simp; omega) | (simp at *; omega)) _) | (with_reducible exact Below.refl _ _) | (with_reducible assumption) | (with_reducible refine Below.trans ?_ (Below.mono (by assumption) (by first | omega | (simp; done) | (simp; omega) | (simp at *; omega)))))))⟩
  · have hp : Hid (plP s d = 0) := if_neg h.out
    rw [hp.out]
    unfold plE at hb ⊢
    clear h
    go_enter Tryd.func24, Tryd.ntmps24
    go_wp2_with (first | (go_at_call 71; ((with_reducible refine (checkSurface_any _ _).mono ?_)); rintro e w' ⟨rfl, rfl⟩) | (go_at_call 72; ((with_reducible refine (checkDepth_any _ _).mono ?_)); rintro e w' ⟨rfl, rfl⟩) | (go_at_call 70; ((with_reducible refine (firstOf2c (rngE s 400 1100) (rngE d 0 30000) _ _ (by simp [go_sem]) (by simp [go_sem])).mono ?_)); rintro e w' ⟨rfl, rfl⟩))
    go_ret2
    exact ⟨rfl, (by (repeat (first | (with_reducible refine Below.drew ?_) | (with_reducible refine below_drewN ?_ _) | (with_reducible refine Below.alloc ?_ (by first | omega | (simp; done) | (simp; omega) | (simp at *; omega)) _) | (with_reducible refine Below.setCell ?_ (by first | omega | (simp; done) | (simp; omega) | (simp at *; omega)) _) | (with_reducible exact Below.refl _ _) | (with_reducible assumption) | (with_reducible refine Below.trans ?_ (Below.mono (by assumption) (by first | omega | (simp; done) | (simp; omega) | (simp at *; omega)))))))⟩
theorem IsPressure_any (n : Int) (w : World) :
    Calls Tryd.prog 27 #[.int .i64 n] w fun e w' => e = .returned (.bool (inB n 0 100000)) ∧ w = w' := by
  go_enter Tryd.func27, Tryd.ntmps27
  go_wp2_with ((go_at_call 34; ((with_reducible refine (baseWithin_any _ _ _ _).mono ?_)); rintro e w' ⟨rfl, rfl⟩))
  go_ret
  exact ⟨rfl, rfl⟩
theorem IsSurface_any (n : Int) (w : World) :
    Calls Tryd.prog 73 #[.int .i64 n] w fun e w' => e = .returned (.bool (inB n 400 1100)) ∧ w = w' := by
  go_enter Tryd.func73, Tryd.ntmps73
  go_wp2_with ((go_at_call 34; ((with_reducible refine (baseWithin_any _ _ _ _).mono ?_)); rintro e w' ⟨rfl, rfl⟩))
  go_ret
  exact ⟨rfl, rfl⟩
theorem IsDepth_any (n : Int) (w : World) :
    Calls Tryd.prog 74 #[.int .i64 n] w fun e w' => e = .returned (.bool (inB n 0 30000)) ∧ w = w' := by
  go_enter Tryd.func74, Tryd.ntmps74
  go_wp2_with ((go_at_call 34; ((with_reducible refine (baseWithin_any _ _ _ _).mono ?_)); rintro e w' ⟨rfl, rfl⟩))
  go_ret
  exact ⟨rfl, rfl⟩
theorem plE_val (s d : Int) : plE s d = if inB s 400 1100 = true ∧ inB d 0 30000 = true then 0 else 2 := by
  unfold plE rngE
  rcases inB_cases s 400 1100 with h1 | h1 <;> rcases inB_cases d 0 30000 with h2 | h2 <;> simp [h1, h2, firE]
theorem CheckPlace_any (s d : Int) (w : World) :
    Calls Tryd.prog 25 #[.int .i64 s, .int .i64 d] w fun e w' => e = .returned (.int .i64 (plE s d)) ∧ w = w' := by
  obtain ⟨v, hv⟩ : ∃ v, Hid (plE s d = v) := ⟨_, rfl⟩
  rw [hv.out]
  rcases inB_cases s 400 1100 with h1 | h1 <;> rcases inB_cases d 0 30000 with h2 | h2
  all_goals
    go_enter Tryd.func25, Tryd.ntmps25
    go_wp2_with (first | (go_at_call 73; ((with_reducible refine (IsSurface_any _ _).mono ?_)); rintro e w' ⟨rfl, rfl⟩) | (go_at_call 74; ((with_reducible refine (IsDepth_any _ _).mono ?_)); rintro e w' ⟨rfl, rfl⟩))
    go_ret
    exact ⟨ret_int (by rw [← hv.out, plE_val]; simp [h1, h2]), rfl⟩
def paE (o h p : Int) : Int := firE [gasE o h, rngE p 0 100000]
def paV (o h p x : Int) : Int := if paE o h p = 0 then x * p else 0
theorem Partial_t1 (o h p : Int) (w : World) (hb : (paE o h p != 0) = true) :
    Calls Tryd.prog 26 #[.agg #[.int .i64 o, .int .i64 h], .int .i64 p] w fun e w' => e = .returned (.tuple #[.agg #[.int .i64 0, .int .i64 0, .int .i64 0], .int .i64 (paE o h p)]) ∧ Below w.heap.size w w' := by
  unfold paE at hb
  go_enter Tryd.func26, Tryd.ntmps26
  go_wp2_with (first | (go_at_call 21; ((with_reducible refine (CheckGas_any _ _ _).mono ?_)); rintro e w' ⟨rfl, rfl⟩) | (go_at_call 75; ((with_reducible refine (checkPressure_any _ _).mono ?_)); rintro e w' ⟨rfl, rfl⟩) | (go_at_call 70; ((with_reducible refine (firstOf2c (gasE o h) (rngE p 0 100000) _ _ (by simp [go_sem]) (by simp [go_sem])).mono ?_)); rintro e w' ⟨rfl, rfl⟩))
  refine bodyPost_ret (v := .tuple #[.agg #[.int .i64 0, .int .i64 0, .int .i64 0], .int .i64 (paE o h p)]) (by simp [results, Tryd.results26, go_sem]; rfl) rfl ⟨rfl, (by (repeat (first | (with_reducible refine Below.drew ?_) | (with_reducible refine below_drewN ?_ _) | (with_reducible refine Below.alloc ?_ (by first | omega | (simp; done) | (simp; omega) | (simp at *; omega)) _) | (with_reducible refine Below.setCell ?_ (by first | omega | (simp; done) | (simp; omega) | (simp at *; omega)) _) | (with_reducible exact Below.refl _ _) | (with_reducible assumption) | (with_reducible refine Below.trans ?_ (Below.mono (by assumption) (by first | omega | (simp; done) | (simp; omega) | (simp at *; omega)))))))⟩
set_option maxHeartbeats 1000000 in
theorem Partial_t2 (o h p : Int) (w : World) (hb : (paE o h p != 0) = false) (k1 : 0 ≤ o) (k2 : o ≤ 1000) (k3 : 0 ≤ h) (k4 : h ≤ 1000) (k5 : 0 ≤ p) (k6 : p ≤ 100000) (k7 : o + h ≤ 1000) :
    Calls Tryd.prog 26 #[.agg #[.int .i64 o, .int .i64 h], .int .i64 p] w fun e w' => e = .returned (.tuple #[.agg #[.int .i64 (o * p), .int .i64 (h * p), .int .i64 ((1000 - o - h) * p)], .int .i64 0]) ∧ Below w.heap.size w w' := by
  unfold paE at hb
  have bd : ∀ x : Int, 0 ≤ x → x ≤ 1000 → 0 ≤ x * p ∧ x * p ≤ 100000000 := fun x h0 h1 => ⟨Int.mul_nonneg h0 k5, Int.le_trans (Int.mul_le_mul h1 k6 k5 (by omega)) (by omega)⟩
  have u1 : IntKind.i64.wrap (o * p) = o * p := IntWalk.i64_in _ (by have := bd o k1 k2; omega)
  have u2 : IntKind.i64.wrap (h * p) = h * p := IntWalk.i64_in _ (by have := bd h k3 k4; omega)
  have u3 : IntKind.i64.wrap ((1000 - o - h) * p) = (1000 - o - h) * p := IntWalk.i64_in _ (by have := bd (1000 - o - h) (by omega) (by omega); omega)
  clear bd
  go_enter Tryd.func26, Tryd.ntmps26
  go_wp2_with (first | (go_at_call 21; ((with_reducible refine (CheckGas_any _ _ _).mono ?_)); rintro e w' ⟨rfl, rfl⟩) | (go_at_call 75; ((with_reducible refine (checkPressure_any _ _).mono ?_)); rintro e w' ⟨rfl, rfl⟩) | (go_at_call 70; ((with_reducible refine (firstOf2c (gasE o h) (rngE p 0 100000) _ _ (by simp [go_sem]) (by simp [go_sem])).mono ?_)); rintro e w' ⟨rfl, rfl⟩) | (go_at_call 76; ((with_reducible refine (partsOf_any _ _ _ k1 k2 k3 k4).mono ?_)); rintro e w' ⟨rfl, rfl⟩))
  refine wp_loop_rounds 4 ?_
  rw [rounds_succ]
  go_wp2
  rw [rounds_succ]
  go_wp2
  rw [rounds_succ]
  go_wp2
  rw [rounds_succ]
  go_wp2
  refine bodyPost_ret (v := .tuple #[.agg #[.int .i64 (o * p), .int .i64 (h * p), .int .i64 ((1000 - o - h) * p)], .int .i64 0]) (by simp [results, Tryd.results26, go_sem]) rfl ⟨rfl, (by (repeat (first | (with_reducible refine Below.drew ?_) | (with_reducible refine below_drewN ?_ _) | (with_reducible refine Below.alloc ?_ (by first | omega | (simp; done) | (simp; omega) | (simp at *; omega)) _) | (with_reducible refine Below.setCell ?_ (by first | omega | (simp; done) | (simp; omega) | (simp at *; omega)) _) | (with_reducible exact Below.refl _ _) | (with_reducible assumption) | (with_reducible refine Below.trans ?_ (Below.mono (by assumption) (by first | omega | (simp; done) | (simp; omega) | (simp at *; omega)))))))⟩
theorem refNitrogen_any (o h : Int) (w : World) (a1 : 0 ≤ o) (a2 : o ≤ 1000) (a3 : 0 ≤ h) (a4 : h ≤ 1000) :
    Calls Tryd.prog 22 #[.agg #[.int .i64 o, .int .i64 h]] w fun e w' => e = .returned (.int .i64 (1000 - o - h)) ∧ w.alloc (.cells #[.int .i64 o, .int .i64 h] 23) = w' := by
  go_enter Tryd.func22, Tryd.ntmps22
  go_wp2
  go_ret
  exact ⟨rfl, rfl⟩
theorem refPartial_any (o h p : Int) (w : World) (k1 : 0 ≤ o) (k2 : o ≤ 1000) (k3 : 0 ≤ h) (k4 : h ≤ 1000) (k5 : 0 ≤ p) (k6 : p ≤ 100000) (k7 : o + h ≤ 1000) :
    Calls Tryd.prog 28 #[.agg #[.int .i64 o, .int .i64 h], .int .i64 p] w fun e w' => e = .returned (.agg #[.int .i64 (o * p), .int .i64 (h * p), .int .i64 ((1000 - o - h) * p)]) ∧ (((w.alloc (.cells #[.int .i64 o, .int .i64 h] 23)).alloc (.cells #[.int .i64 (o * p), .int .i64 (h * p), .int .i64 ((1000 - o - h) * p)] 40)).alloc (.cells #[.int .i64 o, .int .i64 h] 23)).drew = w' := by
  have bd : ∀ x : Int, 0 ≤ x → x ≤ 1000 → 0 ≤ x * p ∧ x * p ≤ 100000000 := fun x h0 h1 => ⟨Int.mul_nonneg h0 k5, Int.le_trans (Int.mul_le_mul h1 k6 k5 (by omega)) (by omega)⟩
  have u1 : IntKind.i64.wrap (o * p) = o * p := IntWalk.i64_in _ (by have := bd o k1 k2; omega)
  have u2 : IntKind.i64.wrap (h * p) = h * p := IntWalk.i64_in _ (by have := bd h k3 k4; omega)
  have u3 : IntKind.i64.wrap ((1000 - o - h) * p) = (1000 - o - h) * p := IntWalk.i64_in _ (by have := bd (1000 - o - h) (by omega) (by omega); omega)
  clear bd
  go_enter Tryd.func28, Tryd.ntmps28
  go_wp2
  go_region_held3 (fun w' => w'.cell? ⟨w.heap.size, 0, none⟩ = some (.int .i64 o) ∧ w'.cell? ⟨w.heap.size, 1, none⟩ = some (.int .i64 h)) (simp [go_sem, World.cell?_alloc_past])
    (first
      | (go_at_call 22; ((with_reducible refine (refNitrogen_any _ _ _ k1 k2 k3 k4).mono ?_)); rintro e w' ⟨rfl, rfl⟩))
  go_wp2
  refine bodyPost_ret (v := .agg #[.int .i64 (o * p), .int .i64 (h * p), .int .i64 ((1000 - o - h) * p)]) (by simp [results, Tryd.results28, go_sem]) rfl ⟨rfl, rfl⟩
end Go.Proofs.YtebieflnlmdllaaDoor
