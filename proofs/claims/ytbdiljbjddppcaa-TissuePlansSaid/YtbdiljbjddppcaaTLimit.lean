/- Limits, both ends of a load together, the least pressure; the error of a leg. -/
import Derived.Test.YtbdiljbjddppcaaTEach
import Derived.Test.YtbdiljbjddppcaaTMark
import Derived.Test.YtbdiljbjddppcaaShare
import Derived.Outline
namespace Go.Proofs.Ytbdiljbjddppcaa
open Go.ChangeShapes Go.WideShapes Go.ChangeAt Go.RowKit
set_option linter.unusedVariables false
set_option linter.unusedSimpArgs false
theorem limitOf_any (n h b s f : Int) (w : World) (f0 : 0 ≤ f) (f1 : f ≤ 1000) (b0 : 0 ≤ b) (b1 : b ≤ 10000) (s0 : 1000 ≤ s) (s1 : s ≤ 10000) :
    Calls Try.prog 67 #[.agg #[.int .i64 n, .int .i64 h, .int .i64 b, .int .i64 s], .int .i64 f] w fun e w' => e = .returned (.agg #[.int .i64 (f * 1000 * b), .int .i64 (1000000 + f * (s - 1000))]) ∧ Below w.heap.size w w' := by
  obtain ⟨P, hP⟩ : ∃ x, Hid (f * 1000 * b = x) := ⟨_, rfl⟩
  obtain ⟨Q, hQ⟩ : ∃ x, Hid (f * (s - 1000) = x) := ⟨_, rfl⟩
  have p0 : 0 ≤ P := by rw [← hP.out]; exact Int.mul_nonneg (by omega) b0
  have p1 : P ≤ 10000000000 := by rw [← hP.out]; exact Int.le_trans (Int.mul_le_mul (show f * 1000 ≤ 1000000 by omega) b1 b0 (by omega)) (by omega)
  have q0 : 0 ≤ Q := by rw [← hQ.out]; exact Int.mul_nonneg f0 (by omega)
  have q1 : Q ≤ 9000000 := by rw [← hQ.out]; exact Int.le_trans (Int.mul_le_mul f1 (show s - 1000 ≤ 9000 by omega) (by omega) (by omega)) (by omega)
  have e1 : IntKind.i64.wrap (f * 1000 * b) = P := mul_wrap hP.out p0 (by omega)
  have e2 : f * 1000 * b = P := hP.out
  have e3 : IntKind.i64.wrap (f * (s - 1000)) = Q := mul_wrap hQ.out q0 (by omega)
  have e4 : f * (s - 1000) = Q := hQ.out
  rw [hP.out, hQ.out]
  clear hP hQ
  go_enter Try.func67, Try.ntmps67
  go_wp2
  refine bodyPost_ret (v := .agg #[.int .i64 P, .int .i64 (1000000 + Q)]) (by simp [results, Try.results67, go_sem, World.cell?_alloc_past]) rfl ⟨rfl, ?_⟩
  (repeat (first | (with_reducible refine Below.drew ?_) | (with_reducible refine below_drewN ?_ _) | (with_reducible refine Below.alloc ?_ (by first | omega | (simp; done) | (simp; omega) | (simp at *; omega)) _) | (with_reducible refine Below.setCell ?_ (by first | omega | (simp; done) | (simp; omega) | (simp at *; omega)) _) | (with_reducible exact Below.refl _ _) | (with_reducible assumption) | (with_reducible refine Below.trans ?_ (Below.mono (by assumption) (by first | omega | (simp; done) | (simp; omega) | (simp at *; omega))))))
theorem endsOf_any (a b c d : Int) (w : World) (a0 : 0 ≤ a ∧ a ≤ 100000000) (b0 : 0 ≤ b ∧ b ≤ 100000000) (c0 : 0 ≤ c ∧ c ≤ 100000000) (d0 : 0 ≤ d ∧ d ≤ 100000000) :
    Calls Try.prog 73 #[.agg #[.int .i64 a, .int .i64 b, .int .i64 c, .int .i64 d]] w fun e w' => e = .returned (.agg #[.int .i64 (a + c), .int .i64 (b + d)]) ∧ Below w.heap.size w w' := by
  obtain ⟨a1, a2⟩ := a0
  obtain ⟨b1, b2⟩ := b0
  obtain ⟨c1, c2⟩ := c0
  obtain ⟨d1, d2⟩ := d0
  go_enter Try.func73, Try.ntmps73
  go_wp2
  refine bodyPost_ret (v := .agg #[.int .i64 (a + c), .int .i64 (b + d)]) (by simp [results, Try.results73, go_sem, World.cell?_alloc_past]) rfl ⟨rfl, ?_⟩
  (repeat (first | (with_reducible refine Below.drew ?_) | (with_reducible refine below_drewN ?_ _) | (with_reducible refine Below.alloc ?_ (by first | omega | (simp; done) | (simp; omega) | (simp at *; omega)) _) | (with_reducible refine Below.setCell ?_ (by first | omega | (simp; done) | (simp; omega) | (simp at *; omega)) _) | (with_reducible exact Below.refl _ _) | (with_reducible assumption) | (with_reducible refine Below.trans ?_ (Below.mono (by assumption) (by first | omega | (simp; done) | (simp; omega) | (simp at *; omega))))))
/-- The least whole pressure at which a load is within a limit, a line from b with the slope s. -/
def lstP (b s x : Int) : Int := (max 0 (1000 * x - b) + s - 1) / s
theorem least_any (b s x : Int) (w : World) (b0 : 0 ≤ b) (b1 : b ≤ 10000000000) (s0 : 1 ≤ s) (s1 : s ≤ 10000000) (x0 : 0 ≤ x) (x1 : x ≤ 200000000) :
    Calls Try.prog 74 #[.agg #[.int .i64 b, .int .i64 s], .int .i64 x] w fun e w' => e = .returned (.int .i64 (lstP b s x)) ∧ Below w.heap.size w w' := by
  have fl1 := fld1
  unfold lstP
  by_cases h : 0 < 1000 * x - b
  · have em : max 0 (1000 * x - b) = 1000 * x - b := by omega
    rw [em]
    clear em
    have h' : b < 1000 * x := by omega
    go_enter Try.func74, Try.ntmps74
    go_wp2_with (go_at_call 66; ((with_reducible refine (divide_any _ _ _ (by omega) (by omega) (by omega) (by omega)).mono ?_)); rintro e w' ⟨rfl, rfl⟩)
    all_goals (try omega)
    go_ret
    exact ⟨rfl, (by (repeat (first | (with_reducible refine Below.drew ?_) | (with_reducible refine below_drewN ?_ _) | (with_reducible refine Below.alloc ?_ (by first | omega | (simp; done) | (simp; omega) | (simp at *; omega)) _) | (with_reducible refine Below.setCell ?_ (by first | omega | (simp; done) | (simp; omega) | (simp at *; omega)) _) | (with_reducible exact Below.refl _ _) | (with_reducible assumption) | (with_reducible refine Below.trans ?_ (Below.mono (by assumption) (by first | omega | (simp; done) | (simp; omega) | (simp at *; omega)))))))⟩
  · have em : max 0 (1000 * x - b) = 0 := by omega
    rw [em]
    clear em
    have h' : 1000 * x ≤ b := by omega
    go_enter Try.func74, Try.ntmps74
    go_wp2_with (go_at_call 66; ((with_reducible refine (divide_any _ _ _ (by omega) (by omega) (by omega) (by omega)).mono ?_)); rintro e w' ⟨rfl, rfl⟩)
    all_goals (try omega)
    go_ret
    exact ⟨by first | rfl | (simp; done), (by (repeat (first | (with_reducible refine Below.drew ?_) | (with_reducible refine below_drewN ?_ _) | (with_reducible refine Below.alloc ?_ (by first | omega | (simp; done) | (simp; omega) | (simp at *; omega)) _) | (with_reducible refine Below.setCell ?_ (by first | omega | (simp; done) | (simp; omega) | (simp at *; omega)) _) | (with_reducible exact Below.refl _ _) | (with_reducible assumption) | (with_reducible refine Below.trans ?_ (Below.mono (by assumption) (by first | omega | (simp; done) | (simp; omega) | (simp at *; omega)))))))⟩
/-- The error of a leg. -/
def legE (f t s o h : Int) : Int := if firE [rngE f 400 31100, rngE t 400 31100, rngE s 0 100000, gasE o h] = 0 then if s = 0 ∧ f ≠ t then 11 else 0 else firE [rngE f 400 31100, rngE t 400 31100, rngE s 0 100000, gasE o h]
set_option maxHeartbeats 2000000 in
theorem CheckLeg_any (f t s o h : Int) (w : World) :
    Calls Try.prog 38 #[.agg #[.int .i64 f, .int .i64 t, .int .i64 s, .int .i64 o, .int .i64 h]] w fun e w' => e = .returned (.int .i64 (legE f t s o h)) ∧ Below w.heap.size w w' := by
  obtain ⟨E, hE⟩ : ∃ x, Hid (legE f t s o h = x) := ⟨_, rfl⟩
  rw [hE.out]
  rcases ez2 (firE [rngE f 400 31100, rngE t 400 31100, rngE s 0 100000, gasE o h]) with ⟨hz0, hzb⟩ | ⟨hz0, hzb⟩
  · by_cases hs : s = 0
    · by_cases hf : f = t
      · have hr : Hid (E = 0) := by show _ = _; rw [← hE.out, legE, if_pos hz0.out, if_neg (by simp [hf])]
        have k1 : (s == 0) = true := by simp [hs]
        have k2 : (f != t) = false := by simp [hf]
        clear hE hz0 hs hf
        go_enter Try.func38, Try.ntmps38
        go_wp2
        go_region_held3 (fun w' => w'.cell? ⟨w.heap.size, 0, none⟩ = some (.int .i64 f) ∧ w'.cell? ⟨w.heap.size, 1, none⟩ = some (.int .i64 t) ∧ w'.cell? ⟨w.heap.size, 2, none⟩ = some (.int .i64 s) ∧ w'.cell? ⟨w.heap.size, 3, none⟩ = some (.int .i64 o) ∧ w'.cell? ⟨w.heap.size, 4, none⟩ = some (.int .i64 h)) (simp [go_sem, World.cell?_alloc_past])
          (first
            | (go_at_call 52; ((with_reducible refine (tcheckPressure_any _ _).mono ?_)); rintro e w' ⟨rfl, rfl⟩)
            | (go_at_call 59; ((with_reducible refine (cRange_any _ _ _ _).mono ?_)); rintro e w' ⟨rfl, rfl⟩)
            | (go_at_call 51; ((with_reducible refine (CheckGas_any _ _ _).mono ?_)); rintro e w' ⟨rfl, rfl⟩)
            | (go_at_call 50; ((with_reducible refine (cFirst4c (rngE f 400 31100) (rngE t 400 31100) (rngE s 0 100000) (gasE o h) _ _ (by simp [go_sem]) (by simp [go_sem]) (by simp [go_sem]) (by simp [go_sem])).mono ?_)); rintro e w' ⟨rfl, rfl⟩))
        go_wp2
        go_ret
        exact ⟨ret_int hr.out.symm, (by (repeat (first | (with_reducible refine Below.drew ?_) | (with_reducible refine below_drewN ?_ _) | (with_reducible refine Below.alloc ?_ (by first | omega | (simp; done) | (simp; omega) | (simp at *; omega)) _) | (with_reducible refine Below.setCell ?_ (by first | omega | (simp; done) | (simp; omega) | (simp at *; omega)) _) | (with_reducible exact Below.refl _ _) | (with_reducible assumption) | (with_reducible refine Below.trans ?_ (Below.mono (by assumption) (by first | omega | (simp; done) | (simp; omega) | (simp at *; omega)))))))⟩
      · have hr : Hid (E = 11) := by show _ = _; rw [← hE.out, legE, if_pos hz0.out, if_pos ⟨hs, hf⟩]
        have k1 : (s == 0) = true := by simp [hs]
        have k2 : (f != t) = true := by simp [hf]
        clear hE hz0 hs hf
        go_enter Try.func38, Try.ntmps38
        go_wp2
        go_region_held3 (fun w' => w'.cell? ⟨w.heap.size, 0, none⟩ = some (.int .i64 f) ∧ w'.cell? ⟨w.heap.size, 1, none⟩ = some (.int .i64 t) ∧ w'.cell? ⟨w.heap.size, 2, none⟩ = some (.int .i64 s) ∧ w'.cell? ⟨w.heap.size, 3, none⟩ = some (.int .i64 o) ∧ w'.cell? ⟨w.heap.size, 4, none⟩ = some (.int .i64 h)) (simp [go_sem, World.cell?_alloc_past])
          (first
            | (go_at_call 52; ((with_reducible refine (tcheckPressure_any _ _).mono ?_)); rintro e w' ⟨rfl, rfl⟩)
            | (go_at_call 59; ((with_reducible refine (cRange_any _ _ _ _).mono ?_)); rintro e w' ⟨rfl, rfl⟩)
            | (go_at_call 51; ((with_reducible refine (CheckGas_any _ _ _).mono ?_)); rintro e w' ⟨rfl, rfl⟩)
            | (go_at_call 50; ((with_reducible refine (cFirst4c (rngE f 400 31100) (rngE t 400 31100) (rngE s 0 100000) (gasE o h) _ _ (by simp [go_sem]) (by simp [go_sem]) (by simp [go_sem]) (by simp [go_sem])).mono ?_)); rintro e w' ⟨rfl, rfl⟩))
        go_wp2
        go_ret
        exact ⟨ret_int hr.out.symm, (by (repeat (first | (with_reducible refine Below.drew ?_) | (with_reducible refine below_drewN ?_ _) | (with_reducible refine Below.alloc ?_ (by first | omega | (simp; done) | (simp; omega) | (simp at *; omega)) _) | (with_reducible refine Below.setCell ?_ (by first | omega | (simp; done) | (simp; omega) | (simp at *; omega)) _) | (with_reducible exact Below.refl _ _) | (with_reducible assumption) | (with_reducible refine Below.trans ?_ (Below.mono (by assumption) (by first | omega | (simp; done) | (simp; omega) | (simp at *; omega)))))))⟩
    · have hr : Hid (E = 0) := by show _ = _; rw [← hE.out, legE, if_pos hz0.out, if_neg (fun h => hs h.1)]
      have k1 : (s == 0) = false := by simp [hs]
      clear hE hz0 hs
      go_enter Try.func38, Try.ntmps38
      go_wp2
      go_region_held3 (fun w' => w'.cell? ⟨w.heap.size, 0, none⟩ = some (.int .i64 f) ∧ w'.cell? ⟨w.heap.size, 1, none⟩ = some (.int .i64 t) ∧ w'.cell? ⟨w.heap.size, 2, none⟩ = some (.int .i64 s) ∧ w'.cell? ⟨w.heap.size, 3, none⟩ = some (.int .i64 o) ∧ w'.cell? ⟨w.heap.size, 4, none⟩ = some (.int .i64 h)) (simp [go_sem, World.cell?_alloc_past])
        (first
          | (go_at_call 52; ((with_reducible refine (tcheckPressure_any _ _).mono ?_)); rintro e w' ⟨rfl, rfl⟩)
          | (go_at_call 59; ((with_reducible refine (cRange_any _ _ _ _).mono ?_)); rintro e w' ⟨rfl, rfl⟩)
          | (go_at_call 51; ((with_reducible refine (CheckGas_any _ _ _).mono ?_)); rintro e w' ⟨rfl, rfl⟩)
          | (go_at_call 50; ((with_reducible refine (cFirst4c (rngE f 400 31100) (rngE t 400 31100) (rngE s 0 100000) (gasE o h) _ _ (by simp [go_sem]) (by simp [go_sem]) (by simp [go_sem]) (by simp [go_sem])).mono ?_)); rintro e w' ⟨rfl, rfl⟩))
      go_wp2
      go_ret
      exact ⟨ret_int hr.out.symm, (by (repeat (first | (with_reducible refine Below.drew ?_) | (with_reducible refine below_drewN ?_ _) | (with_reducible refine Below.alloc ?_ (by first | omega | (simp; done) | (simp; omega) | (simp at *; omega)) _) | (with_reducible refine Below.setCell ?_ (by first | omega | (simp; done) | (simp; omega) | (simp at *; omega)) _) | (with_reducible exact Below.refl _ _) | (with_reducible assumption) | (with_reducible refine Below.trans ?_ (Below.mono (by assumption) (by first | omega | (simp; done) | (simp; omega) | (simp at *; omega)))))))⟩
  · have hr : Hid (E = firE [rngE f 400 31100, rngE t 400 31100, rngE s 0 100000, gasE o h]) := by show _ = _; rw [← hE.out, legE, if_neg hz0.out]
    clear hE hz0
    go_enter Try.func38, Try.ntmps38
    go_wp2
    go_region_held3 (fun w' => w'.cell? ⟨w.heap.size, 0, none⟩ = some (.int .i64 f) ∧ w'.cell? ⟨w.heap.size, 1, none⟩ = some (.int .i64 t) ∧ w'.cell? ⟨w.heap.size, 2, none⟩ = some (.int .i64 s) ∧ w'.cell? ⟨w.heap.size, 3, none⟩ = some (.int .i64 o) ∧ w'.cell? ⟨w.heap.size, 4, none⟩ = some (.int .i64 h)) (simp [go_sem, World.cell?_alloc_past])
      (first
        | (go_at_call 52; ((with_reducible refine (tcheckPressure_any _ _).mono ?_)); rintro e w' ⟨rfl, rfl⟩)
        | (go_at_call 59; ((with_reducible refine (cRange_any _ _ _ _).mono ?_)); rintro e w' ⟨rfl, rfl⟩)
        | (go_at_call 51; ((with_reducible refine (CheckGas_any _ _ _).mono ?_)); rintro e w' ⟨rfl, rfl⟩)
        | (go_at_call 50; ((with_reducible refine (cFirst4c (rngE f 400 31100) (rngE t 400 31100) (rngE s 0 100000) (gasE o h) _ _ (by simp [go_sem]) (by simp [go_sem]) (by simp [go_sem]) (by simp [go_sem])).mono ?_)); rintro e w' ⟨rfl, rfl⟩))
    go_wp2
    go_ret
    exact ⟨ret_int hr.out.symm, (by (repeat (first | (with_reducible refine Below.drew ?_) | (with_reducible refine below_drewN ?_ _) | (with_reducible refine Below.alloc ?_ (by first | omega | (simp; done) | (simp; omega) | (simp at *; omega)) _) | (with_reducible refine Below.setCell ?_ (by first | omega | (simp; done) | (simp; omega) | (simp at *; omega)) _) | (with_reducible exact Below.refl _ _) | (with_reducible assumption) | (with_reducible refine Below.trans ?_ (Below.mono (by assumption) (by first | omega | (simp; done) | (simp; omega) | (simp at *; omega)))))))⟩
end Go.Proofs.Ytbdiljbjddppcaa
