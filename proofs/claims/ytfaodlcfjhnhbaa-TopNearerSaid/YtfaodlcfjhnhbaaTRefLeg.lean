/- The specification's CheckLeg, IsFine; the statements' check of a dive. -/
import Derived.Test.YtfaodlcfjhnhbaaMRefChk
import Derived.Test.YtfaodlcfjhnhbaaMLimits
import Derived.Outline
namespace Go.Proofs.Ytfaodlcfjhnhbaa
open Go.ChangeShapes Go.WideShapes Go.ChangeAt Go.RowKit
set_option linter.unusedVariables false
set_option linter.unusedSimpArgs false
attribute [local go_sem ↓] Go.wp_at_zero Go.wp_at_succ
theorem legE_1 {f t s o h : Int} (k : inB f 400 31100 = false) : legE f t s o h = 2 := by
  unfold legE
  rw [rngE_f k]; simp [firE]
theorem legE_2 {f t s o h : Int} (k : inB f 400 31100 = true) (k2 : inB t 400 31100 = false) : legE f t s o h = 2 := by
  unfold legE
  rw [rngE_t k, rngE_f k2]; simp [firE]
theorem legE_3 {f t s o h : Int} (k : inB f 400 31100 = true) (k2 : inB t 400 31100 = true) (k3 : inB s 0 100000 = false) : legE f t s o h = 2 := by
  unfold legE
  rw [rngE_t k, rngE_t k2, rngE_f k3]; simp [firE]
theorem legE_4 {f t s o h : Int} (k : inB f 400 31100 = true) (k2 : inB t 400 31100 = true) (k3 : inB s 0 100000 = true) (k4 : gasE o h ≠ 0) : legE f t s o h = gasE o h := by
  unfold legE
  rw [rngE_t k, rngE_t k2, rngE_t k3]; simp [firE, k4]
theorem legE_5 {f t s o h : Int} (k : inB f 400 31100 = true) (k2 : inB t 400 31100 = true) (k3 : inB s 0 100000 = true) (k4 : gasE o h = 0) : legE f t s o h = if s = 0 ∧ f ≠ t then 11 else 0 := by
  unfold legE
  rw [rngE_t k, rngE_t k2, rngE_t k3, k4]; simp [firE]
theorem bWh (n a b : Int) (r : Bool) (w : World) (h : Hid (inB n a b = r)) : Calls Try.prog 22 #[.int .i64 n, .int .i64 a, .int .i64 b] w fun e w' => e = .returned (.bool r) ∧ w = w' := bWi n a b r w h.out
theorem isFine_is (n : Int) (r : Bool) (w : World) (h : Hid (inB n 0 6 = r)) : Calls Try.prog 7 #[.int .i64 n] w fun e w' => e = .returned (.bool r) ∧ w = w' := by
  go_enter Try.func7, Try.ntmps7
  go_wp2_with ((go_at_call 22; ((with_reducible refine (bWh _ _ _ _ _ h).mono ?_)); rintro e w' ⟨rfl, rfl⟩))
  go_ret
  exact ⟨rfl, rfl⟩
theorem refCheckGas_iz (o h r : Int) (w : World) (hr : Hid (gasE o h = r)) :
    Calls Try.prog 33 #[.agg #[.int .i64 o, .int .i64 h]] w fun e w' => e = .returned (.int .i64 r) ∧ Below w.heap.size w w' := by
  rw [← hr.out]
  exact (refCheckGas_any o h w).mono fun e w' ⟨h1, h2⟩ => ⟨h1, by first | exact h2 | (rw [← h2]; (repeat (first | (with_reducible refine Below.drew ?_) | (with_reducible refine below_drewN ?_ _) | (with_reducible refine Below.alloc ?_ (by first | omega | (simp; done) | (simp; omega) | (simp at *; omega)) _) | (with_reducible refine Below.setCell ?_ (by first | omega | (simp; done) | (simp; omega) | (simp at *; omega)) _) | (with_reducible exact Below.refl _ _) | (with_reducible assumption) | (with_reducible refine Below.trans ?_ (Below.mono (by assumption) (by first | omega | (simp; done) | (simp; omega) | (simp at *; omega)))))))⟩
set_option maxRecDepth 100000 in
set_option maxHeartbeats 2000000 in
theorem refCheckLeg_is (f t s o h r : Int) (w : World) (hr : Hid (legE f t s o h = r)) :
    Calls Try.prog 14 #[.agg #[.int .i64 f, .int .i64 t, .int .i64 s, .int .i64 o, .int .i64 h]] w fun e w' => e = .returned (.int .i64 r) ∧ Below w.heap.size w w' := by
  rcases inB_cases f 400 31100 with k1 | k1
  rotate_left
  · have hv : Hid (2 = r) := by show _ = _; rw [← hr.out, legE_1 k1]
    have H1 := Lib.hid k1
    clear k1 hr
    go_enter Try.func14, Try.ntmps14
    go_wp2_with ((go_at_call 32; ((with_reducible refine (isPressure_is f false _ H1).mono ?_)); rintro e w' ⟨rfl, rfl⟩))
    go_ret
    exact ⟨ret_int hv.out, (by (repeat (first | (with_reducible refine Below.drew ?_) | (with_reducible refine below_drewN ?_ _) | (with_reducible refine Below.alloc ?_ (by first | omega | (simp; done) | (simp; omega) | (simp at *; omega)) _) | (with_reducible refine Below.setCell ?_ (by first | omega | (simp; done) | (simp; omega) | (simp at *; omega)) _) | (with_reducible exact Below.refl _ _) | (with_reducible assumption) | (with_reducible refine Below.trans ?_ (Below.mono (by assumption) (by first | omega | (simp; done) | (simp; omega) | (simp at *; omega)))))))⟩
  rcases inB_cases t 400 31100 with k2 | k2
  rotate_left
  · have hv : Hid (2 = r) := by show _ = _; rw [← hr.out, legE_2 k1 k2]
    have H1 := Lib.hid k1
    have H2 := Lib.hid k2
    clear k1 k2 hr
    go_enter Try.func14, Try.ntmps14
    go_wp2_with (first | (go_at_call 32; ((with_reducible refine (isPressure_is f true _ H1).mono ?_)); rintro e w' ⟨rfl, rfl⟩) | (go_at_call 32; ((with_reducible refine (isPressure_is t false _ H2).mono ?_)); rintro e w' ⟨rfl, rfl⟩))
    go_ret
    exact ⟨ret_int hv.out, (by (repeat (first | (with_reducible refine Below.drew ?_) | (with_reducible refine below_drewN ?_ _) | (with_reducible refine Below.alloc ?_ (by first | omega | (simp; done) | (simp; omega) | (simp at *; omega)) _) | (with_reducible refine Below.setCell ?_ (by first | omega | (simp; done) | (simp; omega) | (simp at *; omega)) _) | (with_reducible exact Below.refl _ _) | (with_reducible assumption) | (with_reducible refine Below.trans ?_ (Below.mono (by assumption) (by first | omega | (simp; done) | (simp; omega) | (simp at *; omega)))))))⟩
  rcases inB_cases s 0 100000 with k3 | k3
  rotate_left
  · have hv : Hid (2 = r) := by show _ = _; rw [← hr.out, legE_3 k1 k2 k3]
    have H1 := Lib.hid k1
    have H2 := Lib.hid k2
    have H3 := Lib.hid k3
    clear k1 k2 k3 hr
    go_enter Try.func14, Try.ntmps14
    go_wp2_with (first | (go_at_call 32; ((with_reducible refine (isPressure_is f true _ H1).mono ?_)); rintro e w' ⟨rfl, rfl⟩) | (go_at_call 32; ((with_reducible refine (isPressure_is t true _ H2).mono ?_)); rintro e w' ⟨rfl, rfl⟩) | (go_at_call 22; ((with_reducible refine (bWh s 0 100000 false _ H3).mono ?_)); rintro e w' ⟨rfl, rfl⟩))
    go_ret
    exact ⟨ret_int hv.out, (by (repeat (first | (with_reducible refine Below.drew ?_) | (with_reducible refine below_drewN ?_ _) | (with_reducible refine Below.alloc ?_ (by first | omega | (simp; done) | (simp; omega) | (simp at *; omega)) _) | (with_reducible refine Below.setCell ?_ (by first | omega | (simp; done) | (simp; omega) | (simp at *; omega)) _) | (with_reducible exact Below.refl _ _) | (with_reducible assumption) | (with_reducible refine Below.trans ?_ (Below.mono (by assumption) (by first | omega | (simp; done) | (simp; omega) | (simp at *; omega)))))))⟩
  obtain ⟨g, hg⟩ : ∃ z, Hid (gasE o h = z) := ⟨_, Lib.hid rfl⟩
  have H1 := Lib.hid k1
  have H2 := Lib.hid k2
  have H3 := Lib.hid k3
  rcases ez2 g with ⟨hz0, hzb⟩ | ⟨hz0, hzb⟩
  rotate_left
  · have hv : Hid (g = r) := by show _ = _; rw [← hr.out, legE_4 k1 k2 k3 (by rw [hg.out]; exact hz0.out), hg.out]
    clear k1 k2 k3 hr hz0
    go_enter Try.func14, Try.ntmps14
    go_wp2_with (first | (go_at_call 33; fail) | (go_at_call 32; ((with_reducible refine (isPressure_is f true _ H1).mono ?_)); rintro e w' ⟨rfl, rfl⟩) | (go_at_call 32; ((with_reducible refine (isPressure_is t true _ H2).mono ?_)); rintro e w' ⟨rfl, rfl⟩) | (go_at_call 22; ((with_reducible refine (bWh s 0 100000 true _ H3).mono ?_)); rintro e w' ⟨rfl, rfl⟩))
    refine (refCheckGas_iz o h g _ hg).mono ?_
    rintro e w1 ⟨rfl, hb1⟩
    have hB1 : Below w.heap.size w w1 := (by (repeat (first | (with_reducible refine Below.drew ?_) | (with_reducible refine below_drewN ?_ _) | (with_reducible refine Below.alloc ?_ (by first | omega | (simp; done) | (simp; omega) | (simp at *; omega)) _) | (with_reducible refine Below.setCell ?_ (by first | omega | (simp; done) | (simp; omega) | (simp at *; omega)) _) | (with_reducible exact Below.refl _ _) | (with_reducible assumption) | (with_reducible refine Below.trans ?_ (Below.mono (by assumption) (by first | omega | (simp; done) | (simp; omega) | (simp at *; omega)))))))
    clear hb1
    go_wp2
    go_ret
    exact ⟨ret_int hv.out, hB1⟩
  have hgz := hz0.out
  subst hgz
  have hv : Hid (r = if s = 0 ∧ f ≠ t then 11 else 0) := by show _ = _; rw [← hr.out, legE_5 k1 k2 k3 hg.out]
  clear k1 k2 k3 hr hz0
  by_cases hs : s = 0
  · have hsb : (s == 0) = true := by simpa using hs
    by_cases hft : f = t
    · have hfb : (f != t) = false := by simpa using hft
      have hw : Hid (0 = r) := by show _ = _; rw [hv.out, if_neg (by intro k; exact k.2 hft)]
      clear hs hft hv
      go_enter Try.func14, Try.ntmps14
      go_wp2_with (first | (go_at_call 33; fail) | (go_at_call 32; ((with_reducible refine (isPressure_is f true _ H1).mono ?_)); rintro e w' ⟨rfl, rfl⟩) | (go_at_call 32; ((with_reducible refine (isPressure_is t true _ H2).mono ?_)); rintro e w' ⟨rfl, rfl⟩) | (go_at_call 22; ((with_reducible refine (bWh s 0 100000 true _ H3).mono ?_)); rintro e w' ⟨rfl, rfl⟩))
      refine (refCheckGas_iz o h 0 _ hg).mono ?_
      rintro e w1 ⟨rfl, hb1⟩
      have c0 : w1.cell? ⟨w.heap.size, 0, none⟩ = some (.int .i64 f) := by rw [(bcell hb1).1 _ _ (by first | (simp; done) | (simp; omega) | omega)]; simp [go_sem, World.cell?_alloc_past, *]
      have c1 : w1.cell? ⟨w.heap.size, 1, none⟩ = some (.int .i64 t) := by rw [(bcell hb1).1 _ _ (by first | (simp; done) | (simp; omega) | omega)]; simp [go_sem, World.cell?_alloc_past, *]
      have c2 : w1.cell? ⟨w.heap.size, 2, none⟩ = some (.int .i64 s) := by rw [(bcell hb1).1 _ _ (by first | (simp; done) | (simp; omega) | omega)]; simp [go_sem, World.cell?_alloc_past, *]
      have c3 : w1.cell? ⟨w.heap.size, 3, none⟩ = some (.int .i64 o) := by rw [(bcell hb1).1 _ _ (by first | (simp; done) | (simp; omega) | omega)]; simp [go_sem, World.cell?_alloc_past, *]
      have c4 : w1.cell? ⟨w.heap.size, 4, none⟩ = some (.int .i64 h) := by rw [(bcell hb1).1 _ _ (by first | (simp; done) | (simp; omega) | omega)]; simp [go_sem, World.cell?_alloc_past, *]
      have hB1 : Below w.heap.size w w1 := (by (repeat (first | (with_reducible refine Below.drew ?_) | (with_reducible refine below_drewN ?_ _) | (with_reducible refine Below.alloc ?_ (by first | omega | (simp; done) | (simp; omega) | (simp at *; omega)) _) | (with_reducible refine Below.setCell ?_ (by first | omega | (simp; done) | (simp; omega) | (simp at *; omega)) _) | (with_reducible exact Below.refl _ _) | (with_reducible assumption) | (with_reducible refine Below.trans ?_ (Below.mono (by assumption) (by first | omega | (simp; done) | (simp; omega) | (simp at *; omega)))))))
      clear hb1
      go_wp2
      go_ret
      exact ⟨ret_int hw.out, hB1⟩
    · have hfb : (f != t) = true := by simpa using hft
      have hw : Hid (11 = r) := by show _ = _; rw [hv.out, if_pos ⟨hs, hft⟩]
      clear hs hft hv
      go_enter Try.func14, Try.ntmps14
      go_wp2_with (first | (go_at_call 33; fail) | (go_at_call 32; ((with_reducible refine (isPressure_is f true _ H1).mono ?_)); rintro e w' ⟨rfl, rfl⟩) | (go_at_call 32; ((with_reducible refine (isPressure_is t true _ H2).mono ?_)); rintro e w' ⟨rfl, rfl⟩) | (go_at_call 22; ((with_reducible refine (bWh s 0 100000 true _ H3).mono ?_)); rintro e w' ⟨rfl, rfl⟩))
      refine (refCheckGas_iz o h 0 _ hg).mono ?_
      rintro e w1 ⟨rfl, hb1⟩
      have c0 : w1.cell? ⟨w.heap.size, 0, none⟩ = some (.int .i64 f) := by rw [(bcell hb1).1 _ _ (by first | (simp; done) | (simp; omega) | omega)]; simp [go_sem, World.cell?_alloc_past, *]
      have c1 : w1.cell? ⟨w.heap.size, 1, none⟩ = some (.int .i64 t) := by rw [(bcell hb1).1 _ _ (by first | (simp; done) | (simp; omega) | omega)]; simp [go_sem, World.cell?_alloc_past, *]
      have c2 : w1.cell? ⟨w.heap.size, 2, none⟩ = some (.int .i64 s) := by rw [(bcell hb1).1 _ _ (by first | (simp; done) | (simp; omega) | omega)]; simp [go_sem, World.cell?_alloc_past, *]
      have c3 : w1.cell? ⟨w.heap.size, 3, none⟩ = some (.int .i64 o) := by rw [(bcell hb1).1 _ _ (by first | (simp; done) | (simp; omega) | omega)]; simp [go_sem, World.cell?_alloc_past, *]
      have c4 : w1.cell? ⟨w.heap.size, 4, none⟩ = some (.int .i64 h) := by rw [(bcell hb1).1 _ _ (by first | (simp; done) | (simp; omega) | omega)]; simp [go_sem, World.cell?_alloc_past, *]
      have hB1 : Below w.heap.size w w1 := (by (repeat (first | (with_reducible refine Below.drew ?_) | (with_reducible refine below_drewN ?_ _) | (with_reducible refine Below.alloc ?_ (by first | omega | (simp; done) | (simp; omega) | (simp at *; omega)) _) | (with_reducible refine Below.setCell ?_ (by first | omega | (simp; done) | (simp; omega) | (simp at *; omega)) _) | (with_reducible exact Below.refl _ _) | (with_reducible assumption) | (with_reducible refine Below.trans ?_ (Below.mono (by assumption) (by first | omega | (simp; done) | (simp; omega) | (simp at *; omega)))))))
      clear hb1
      go_wp2
      go_ret
      exact ⟨ret_int hw.out, hB1⟩
  · have hsb : (s == 0) = false := by simpa using hs
    have hw : Hid (0 = r) := by show _ = _; rw [hv.out, if_neg (by intro k; exact hs k.1)]
    clear hs hv
    go_enter Try.func14, Try.ntmps14
    go_wp2_with (first | (go_at_call 33; fail) | (go_at_call 32; ((with_reducible refine (isPressure_is f true _ H1).mono ?_)); rintro e w' ⟨rfl, rfl⟩) | (go_at_call 32; ((with_reducible refine (isPressure_is t true _ H2).mono ?_)); rintro e w' ⟨rfl, rfl⟩) | (go_at_call 22; ((with_reducible refine (bWh s 0 100000 true _ H3).mono ?_)); rintro e w' ⟨rfl, rfl⟩))
    refine (refCheckGas_iz o h 0 _ hg).mono ?_
    rintro e w1 ⟨rfl, hb1⟩
    have c0 : w1.cell? ⟨w.heap.size, 0, none⟩ = some (.int .i64 f) := by rw [(bcell hb1).1 _ _ (by first | (simp; done) | (simp; omega) | omega)]; simp [go_sem, World.cell?_alloc_past, *]
    have c1 : w1.cell? ⟨w.heap.size, 1, none⟩ = some (.int .i64 t) := by rw [(bcell hb1).1 _ _ (by first | (simp; done) | (simp; omega) | omega)]; simp [go_sem, World.cell?_alloc_past, *]
    have c2 : w1.cell? ⟨w.heap.size, 2, none⟩ = some (.int .i64 s) := by rw [(bcell hb1).1 _ _ (by first | (simp; done) | (simp; omega) | omega)]; simp [go_sem, World.cell?_alloc_past, *]
    have c3 : w1.cell? ⟨w.heap.size, 3, none⟩ = some (.int .i64 o) := by rw [(bcell hb1).1 _ _ (by first | (simp; done) | (simp; omega) | omega)]; simp [go_sem, World.cell?_alloc_past, *]
    have c4 : w1.cell? ⟨w.heap.size, 4, none⟩ = some (.int .i64 h) := by rw [(bcell hb1).1 _ _ (by first | (simp; done) | (simp; omega) | omega)]; simp [go_sem, World.cell?_alloc_past, *]
    have hB1 : Below w.heap.size w w1 := (by (repeat (first | (with_reducible refine Below.drew ?_) | (with_reducible refine below_drewN ?_ _) | (with_reducible refine Below.alloc ?_ (by first | omega | (simp; done) | (simp; omega) | (simp at *; omega)) _) | (with_reducible refine Below.setCell ?_ (by first | omega | (simp; done) | (simp; omega) | (simp at *; omega)) _) | (with_reducible exact Below.refl _ _) | (with_reducible assumption) | (with_reducible refine Below.trans ?_ (Below.mono (by assumption) (by first | omega | (simp; done) | (simp; omega) | (simp at *; omega)))))))
    clear hb1
    go_wp2
    go_ret
    exact ⟨ret_int hw.out, hB1⟩
/-- The error of a dive. -/
def chkE (T : List Cm) (L : List Ld) (f t s o h n : Int) : Int := firE [loadsE T L, legE f t s o h, rngE n 0 6]
end Go.Proofs.Ytfaodlcfjhnhbaa
