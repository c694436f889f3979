import Derived.Test.YtchfhhmmjioajaaMLimits
import Derived.Test.YtchfhhmmjioajaaMRefChk
import Derived.Test.YtchfhhmmjioajaaMSmall
import Derived.Deep.DrawnRows
import Derived.Outline
import Derived.Test.YtchfhhmmjioajaaTCeil
import Derived.Deep.CutRange
import Derived.Deep.CutBlock
import Derived.Test.YtchfhhmmjioajaaTAwake
/- Limits at a pressure: the program's line, and the specification's. -/
namespace Go.Proofs.Ytchfhhmmjioajaa
open Go.ChangeShapes Go.WideShapes Go.ChangeAt Go.RowKit
set_option linter.unusedVariables false
set_option linter.unusedSimpArgs false
attribute [local go_sem ↓] Go.wp_at_zero Go.wp_at_succ
/-- The limit of a compartment with base b and slope s at a pressure, with a factor; in millionths of a millibar. -/
def limV (b s f p : Int) : Int := f * 1000 * b + (1000000 + f * (s - 1000)) * p
theorem limV_ref (b s f p : Int) : 1000000 * p + f * (1000 * b + (s - 1000) * p) = limV b s f p := by
  unfold limV
  grind
theorem base_bd {b f : Int} (f0 : 0 ≤ f) (f1 : f ≤ 1000) (b0 : 0 ≤ b) (b1 : b ≤ 10000) : 0 ≤ f * 1000 * b ∧ f * 1000 * b ≤ 10000000000 :=
  ⟨Int.mul_nonneg (by omega) b0, Int.le_trans (Int.mul_le_mul (show f * 1000 ≤ 1000000 by omega) b1 b0 (by omega)) (by omega)⟩
theorem slope_bd {s f : Int} (f0 : 0 ≤ f) (f1 : f ≤ 1000) (s0 : 1000 ≤ s) (s1 : s ≤ 10000) : 1000000 ≤ 1000000 + f * (s - 1000) ∧ 1000000 + f * (s - 1000) ≤ 10000000 := by
  have := Int.mul_nonneg f0 (show 0 ≤ s - 1000 by omega)
  have := Int.mul_le_mul f1 (show s - 1000 ≤ 9000 by omega) (by omega) (show (0 : Int) ≤ 1000 by omega)
  omega
theorem line_bd {S p : Int} (s0 : 0 ≤ S) (s1 : S ≤ 10000000) (p0 : 0 ≤ p) (p1 : p ≤ 31100) : 0 ≤ S * p ∧ S * p ≤ 311000000000 :=
  ⟨Int.mul_nonneg s0 p0, Int.le_trans (Int.mul_le_mul s1 p1 p0 (by omega)) (by omega)⟩
theorem at_is (B S p V : Int) (w : World) (b0 : 0 ≤ B) (b1 : B ≤ 10000000000) (s0 : 0 ≤ S) (s1 : S ≤ 10000000) (p0 : 0 ≤ p) (p1 : p ≤ 31100) (hV : Hid (B + S * p = V)) :
    Calls Try.prog 102 #[.agg #[.int .i64 B, .int .i64 S], .int .i64 p] w fun e w' => e = .returned (.int .i64 V) ∧ Below w.heap.size w w' := by
  obtain ⟨M, hM⟩ : ∃ x, Hid (S * p = x) := ⟨_, rfl⟩
  have hm := line_bd s0 s1 p0 p1
  rw [hM.out] at hm
  have e1 : S * p = M := hM.out
  have e2 : IntKind.i64.wrap (S * p) = M := by rw [e1]; exact IntWalk.i64_in _ (by omega)
  have e3 : IntKind.i64.wrap M = M := IntWalk.i64_in _ (by omega)
  have e4 : IntKind.i64.wrap (B + M) = B + M := IntWalk.i64_in _ (by omega)
  have hv : Hid (V = B + M) := by show _ = _; rw [← hV.out, e1]
  clear hV hM
  go_enter Try.func102, Try.ntmps102
  go_wp2
  go_ret
  exact ⟨ret_int hv.out.symm, (by (repeat (first | (with_reducible refine Below.drew ?_) | (with_reducible refine below_drewN ?_ _) | (with_reducible refine Below.alloc ?_ (by first | omega | (simp; done) | (simp; omega) | (simp at *; omega)) _) | (with_reducible refine Below.setCell ?_ (by first | omega | (simp; done) | (simp; omega) | (simp at *; omega)) _) | (with_reducible exact Below.refl _ _) | (with_reducible assumption) | (with_reducible refine Below.trans ?_ (Below.mono (by assumption) (by first | omega | (simp; done) | (simp; omega) | (simp at *; omega)))))))⟩
theorem allows_is (B S x p V : Int) (r : Bool) (w : World) (b0 : 0 ≤ B) (b1 : B ≤ 10000000000) (s0 : 0 ≤ S) (s1 : S ≤ 10000000) (p0 : 0 ≤ p) (p1 : p ≤ 31100) (x0 : 0 ≤ x) (x1 : x ≤ 200000000) (hV : Hid (B + S * p = V)) (hr : Hid (decide (1000 * x ≤ V) = r)) :
    Calls Try.prog 134 #[.agg #[.int .i64 B, .int .i64 S], .int .i64 x, .int .i64 p] w fun e w' => e = .returned (.bool r) ∧ Below w.heap.size w w' := by
  have HQ : Hid (∀ w, Calls Try.prog 102 #[.agg #[.int .i64 B, .int .i64 S], .int .i64 p] w fun e w' => e = .returned (.int .i64 V) ∧ Below w.heap.size w w') := fun w => at_is B S p V w b0 b1 s0 s1 p0 p1 hV
  by_cases h : 1000 * x ≤ V
  · have hv : Hid (r = true) := by show _ = _; rw [← hr.out]; simpa using h
    clear hr hV
    go_enter Try.func134, Try.ntmps134
    go_wp2_with fail
    refine (HQ.out _).mono ?_
    rintro e w1 ⟨rfl, hb1⟩
    have hB1 : Below w.heap.size w w1 := (by (repeat (first | (with_reducible refine Below.drew ?_) | (with_reducible refine below_drewN ?_ _) | (with_reducible refine Below.alloc ?_ (by first | omega | (simp; done) | (simp; omega) | (simp at *; omega)) _) | (with_reducible refine Below.setCell ?_ (by first | omega | (simp; done) | (simp; omega) | (simp at *; omega)) _) | (with_reducible exact Below.refl _ _) | (with_reducible assumption) | (with_reducible refine Below.trans ?_ (Below.mono (by assumption) (by first | omega | (simp; done) | (simp; omega) | (simp at *; omega)))))))
    clear hb1
    go_wp2
    go_ret
    exact ⟨by first | exact ret_bool hv.out.symm | exact ret_bool (by rw [hv.out]; simp; omega), hB1⟩
  · have hv : Hid (r = false) := by show _ = _; rw [← hr.out]; simpa using h
    have h' : V < 1000 * x := by omega
    clear hr hV
    go_enter Try.func134, Try.ntmps134
    go_wp2_with fail
    refine (HQ.out _).mono ?_
    rintro e w1 ⟨rfl, hb1⟩
    have hB1 : Below w.heap.size w w1 := (by (repeat (first | (with_reducible refine Below.drew ?_) | (with_reducible refine below_drewN ?_ _) | (with_reducible refine Below.alloc ?_ (by first | omega | (simp; done) | (simp; omega) | (simp at *; omega)) _) | (with_reducible refine Below.setCell ?_ (by first | omega | (simp; done) | (simp; omega) | (simp at *; omega)) _) | (with_reducible exact Below.refl _ _) | (with_reducible assumption) | (with_reducible refine Below.trans ?_ (Below.mono (by assumption) (by first | omega | (simp; done) | (simp; omega) | (simp at *; omega)))))))
    clear hb1
    go_wp2
    go_ret
    exact ⟨by first | exact ret_bool hv.out.symm | exact ret_bool (by rw [hv.out]; simp; omega), hB1⟩
theorem refLimit_is (n h b s f p V : Int) (w : World) (f0 : 0 ≤ f) (f1 : f ≤ 1000) (b0 : 0 ≤ b) (b1 : b ≤ 10000) (s0 : 1000 ≤ s) (s1 : s ≤ 10000) (p0 : 0 ≤ p) (p1 : p ≤ 31100) (hV : Hid (limV b s f p = V)) :
    Calls Try.prog 104 #[.agg #[.int .i64 n, .int .i64 h, .int .i64 b, .int .i64 s], .int .i64 p, .int .i64 f] w fun e w' => e = .returned (.int .i64 V) ∧ Below w.heap.size w w' := by
  obtain ⟨M, hM⟩ : ∃ x, Hid ((s - 1000) * p = x) := ⟨_, rfl⟩
  have hm : 0 ≤ M ∧ M ≤ 279900000 := by
    rw [← hM.out]
    exact ⟨Int.mul_nonneg (by omega) p0, Int.le_trans (Int.mul_le_mul (show s - 1000 ≤ 9000 by omega) p1 p0 (by omega)) (by omega)⟩
  obtain ⟨K, hK⟩ : ∃ x, Hid (f * (1000 * b + M) = x) := ⟨_, rfl⟩
  have hk : 0 ≤ K ∧ K ≤ 289900000000 := by
    rw [← hK.out]
    exact ⟨Int.mul_nonneg f0 (by omega), Int.le_trans (Int.mul_le_mul f1 (show 1000 * b + M ≤ 289900000 by omega) (by omega) (by omega)) (by omega)⟩
  have e1 : (s - 1000) * p = M := hM.out
  have e2 : IntKind.i64.wrap ((s - 1000) * p) = M := by rw [e1]; exact IntWalk.i64_in _ (by omega)
  have e3 : IntKind.i64.wrap M = M := IntWalk.i64_in _ (by omega)
  have e4 : f * (1000 * b + M) = K := hK.out
  have e5 : IntKind.i64.wrap (f * (1000 * b + M)) = K := by rw [e4]; exact IntWalk.i64_in _ (by omega)
  have e6 : IntKind.i64.wrap K = K := IntWalk.i64_in _ (by omega)
  have e7 : IntKind.i64.wrap (1000 * b + M) = 1000 * b + M := IntWalk.i64_in _ (by omega)
  have e8 : IntKind.i64.wrap (1000000 * p + K) = 1000000 * p + K := IntWalk.i64_in _ (by omega)
  have hv : Hid (V = 1000000 * p + K) := by show _ = _; rw [← hV.out, ← limV_ref, e1, e4]
  clear hV hM hK
  go_enter Try.func104, Try.ntmps104
  go_wp2
  go_ret
  exact ⟨ret_int hv.out.symm, (by (repeat (first | (with_reducible refine Below.drew ?_) | (with_reducible refine below_drewN ?_ _) | (with_reducible refine Below.alloc ?_ (by first | omega | (simp; done) | (simp; omega) | (simp at *; omega)) _) | (with_reducible refine Below.setCell ?_ (by first | omega | (simp; done) | (simp; omega) | (simp at *; omega)) _) | (with_reducible exact Below.refl _ _) | (with_reducible assumption) | (with_reducible refine Below.trans ?_ (Below.mono (by assumption) (by first | omega | (simp; done) | (simp; omega) | (simp at *; omega)))))))⟩
theorem lim_bd {b s f p : Int} (f0 : 0 ≤ f) (f1 : f ≤ 1000) (b0 : 0 ≤ b) (b1 : b ≤ 10000) (s0 : 1000 ≤ s) (s1 : s ≤ 10000) (p0 : 0 ≤ p) (p1 : p ≤ 31100) : 0 ≤ limV b s f p ∧ limV b s f p ≤ 321000000000 := by
  have h1 := base_bd f0 f1 b0 b1
  have h2 := slope_bd f0 f1 s0 s1
  have h3 := line_bd (S := 1000000 + f * (s - 1000)) (by omega) (by omega) p0 p1
  unfold limV
  omega
theorem cF3 (x y z r : Int) (b : Nat) (w : World) (hr : Hid (firE [x, y, z] = r)) (h0 : w.cell? ⟨b, 0, none⟩ = some (.int .i64 x)) (h1 : w.cell? ⟨b, 1, none⟩ = some (.int .i64 y)) (h2 : w.cell? ⟨b, 2, none⟩ = some (.int .i64 z)) :
    Calls Try.prog 73 #[.slice (some ⟨b, 0, none⟩) 3 3] w fun e w' => e = .returned (.int .i64 r) ∧ w = w' := by
  rw [← hr.out]; exact cFirst3c x y z b w h0 h1 h2
theorem checkComp_is (n h b s r : Int) (w : World) (hr : Hid (cmpE n h b s = r)) :
    Calls Try.prog 98 #[.agg #[.int .i64 n, .int .i64 h, .int .i64 b, .int .i64 s]] w fun e w' => e = .returned (.int .i64 r) ∧ Below w.heap.size w w' := by
  rw [← hr.out]; exact checkCompartment_any n h b s w
/-- The error of a compartment, a pressure and a factor. -/
def limE3 (n h b s p f : Int) : Int := firE [cmpE n h b s, rngE p 400 31100, rngE f 0 1000]
theorem LimitAt_bad (n h b s p f E : Int) (w : World) (hE : Hid (limE3 n h b s p f = E)) (hz : (E != 0) = true) :
    Calls Try.prog 46 #[.agg #[.int .i64 n, .int .i64 h, .int .i64 b, .int .i64 s], .int .i64 p, .int .i64 f] w fun e w' => e = .returned (.tuple #[.agg #[.int .i64 0, .int .i64 0], .int .i64 E]) ∧ Below w.heap.size w w' := by
  obtain ⟨c, hc⟩ : ∃ x, Hid (cmpE n h b s = x) := ⟨_, rfl⟩
  have hF : Hid (firE [c, rngE p 400 31100, rngE f 0 1000] = E) := by show _ = _; rw [← hc.out]; exact hE.out
  clear hE
  go_enter Try.func46, Try.ntmps46
  go_wp2_with fail
  refine (checkComp_is n h b s c _ hc).mono ?_
  rintro e w1 ⟨rfl, hb1⟩
  have hs1 := hb1.size
  try simp at hs1
  have c0 : w1.cell? ⟨w.heap.size + 1, 0, none⟩ = some (.int .i64 0) := by rw [(bcell hb1).1 _ _ (by first | (simp; done) | (simp; omega) | omega)]; simp [go_sem, World.cell?_alloc_past]
  have c1 : w1.cell? ⟨w.heap.size + 1, 1, none⟩ = some (.int .i64 0) := by rw [(bcell hb1).1 _ _ (by first | (simp; done) | (simp; omega) | omega)]; simp [go_sem, World.cell?_alloc_past]
  have f0 : ∀ j, w1.frozen? ⟨w.heap.size + 1, j, none⟩ = false := by intro j; rw [(bcell hb1).2 _ _ (by first | (simp; done) | (simp; omega) | omega)]; simp [go_sem]
  have o2 : w.heap.size + 1 < w1.heap.size := by omega
  have o4 : w1.heap.size ≠ w.heap.size + 1 := by omega
  have hB1 : Below w.heap.size w w1 := (by (repeat (first | (with_reducible refine Below.drew ?_) | (with_reducible refine below_drewN ?_ _) | (with_reducible refine Below.alloc ?_ (by first | omega | (simp; done) | (simp; omega) | (simp at *; omega)) _) | (with_reducible refine Below.setCell ?_ (by first | omega | (simp; done) | (simp; omega) | (simp at *; omega)) _) | (with_reducible exact Below.refl _ _) | (with_reducible assumption) | (with_reducible refine Below.trans ?_ (Below.mono (by assumption) (by first | omega | (simp; done) | (simp; omega) | (simp at *; omega)))))))
  clear hb1
  go_wp2_with (first | (go_at_call 83; ((with_reducible refine (tcheckPressure_any _ _).mono ?_)); rintro e w' ⟨rfl, rfl⟩) | (go_at_call 99; ((with_reducible refine (tcheckFactor_any _ _).mono ?_)); rintro e w' ⟨rfl, rfl⟩) | (go_at_call 73; ((with_reducible refine (cF3 _ _ _ E _ _ hF (by simp [go_sem]) (by simp [go_sem]) (by simp [go_sem])).mono ?_)); rintro e w' ⟨rfl, rfl⟩))
  refine bodyPost_ret (v := .tuple #[.agg #[.int .i64 0, .int .i64 0], .int .i64 E]) (by simp [results, Try.results46, go_sem, World.cell?_alloc_past, *]) rfl ⟨rfl, ?_⟩
  (repeat (first | (with_reducible refine Below.drew ?_) | (with_reducible refine below_drewN ?_ _) | (with_reducible refine Below.alloc ?_ (by first | omega | (simp; done) | (simp; omega) | (simp at *; omega)) _) | (with_reducible refine Below.setCell ?_ (by first | omega | (simp; done) | (simp; omega) | (simp at *; omega)) _) | (with_reducible exact Below.refl _ _) | (with_reducible assumption) | (with_reducible refine Below.trans ?_ (Below.mono (by assumption) (by first | omega | (simp; done) | (simp; omega) | (simp at *; omega))))))
set_option maxHeartbeats 1000000 in
theorem LimitAt_good (n h b s p f V x y : Int) (w : World) (hc : Hid (cmpE n h b s = 0)) (f0 : 0 ≤ f) (f1 : f ≤ 1000) (b0 : 0 ≤ b) (b1 : b ≤ 10000) (s0 : 1000 ≤ s) (s1 : s ≤ 10000) (p0 : 400 ≤ p) (p1 : p ≤ 31100) (hV : Hid (limV b s f p = V)) (hx : Hid (V / 1000 = x)) (hy : Hid ((V + 1000 - 1) / 1000 = y)) :
    Calls Try.prog 46 #[.agg #[.int .i64 n, .int .i64 h, .int .i64 b, .int .i64 s], .int .i64 p, .int .i64 f] w fun e w' => e = .returned (.tuple #[.agg #[.int .i64 x, .int .i64 y], .int .i64 0]) ∧ Below w.heap.size w w' := by
  have hF : Hid (firE [0, rngE p 400 31100, rngE f 0 1000] = 0) := by show _ = _; rw [rngE_t (inB_true p0 p1), rngE_t (inB_true f0 f1)]; rfl
  have hvb := lim_bd f0 f1 b0 b1 s0 s1 (show 0 ≤ p by omega) p1
  rw [hV.out] at hvb
  obtain ⟨B, hB⟩ : ∃ z, Hid (f * 1000 * b = z) := ⟨_, rfl⟩
  obtain ⟨S, hS⟩ : ∃ z, Hid (1000000 + f * (s - 1000) = z) := ⟨_, rfl⟩
  have bb := base_bd f0 f1 b0 b1
  have ss := slope_bd f0 f1 s0 s1
  rw [hB.out] at bb
  rw [hS.out] at ss
  have hVV : Hid (B + S * p = V) := by show _ = _; rw [← hB.out, ← hS.out]; exact hV.out
  have HL : Hid (∀ w, Calls Try.prog 101 #[.agg #[.int .i64 n, .int .i64 h, .int .i64 b, .int .i64 s], .int .i64 f] w fun e w' => e = .returned (.agg #[.int .i64 B, .int .i64 S]) ∧ Below w.heap.size w w') := fun w => by
    rw [← hB.out, ← hS.out]; exact limitOf_any n h b s f w f0 f1 b0 b1 s0 s1
  have HA : Hid (∀ w, Calls Try.prog 102 #[.agg #[.int .i64 B, .int .i64 S], .int .i64 p] w fun e w' => e = .returned (.int .i64 V) ∧ Below w.heap.size w w') := fun w => at_is B S p V w bb.1 bb.2 (by omega) ss.2 (by omega) p1 hVV
  have HD : Hid (∀ w : World, Calls Try.prog 100 #[.int .i64 V, .int .i64 1000] w fun e w' => e = .returned (.agg #[.int .i64 x, .int .i64 y]) ∧ Below w.heap.size w w') := fun w => by
    rw [← hx.out, ← hy.out]
    exact (divide_any V 1000 w hvb.1 (by omega) (by omega) (by omega)).mono fun e w' ⟨h1, h2⟩ => ⟨h1, by rw [← h2]; exact ((Below.refl _ _).alloc (Nat.le_refl _) _).drew⟩
  clear hV hx hy hB hS hVV f0 f1 b0 b1 s0 s1 p0 p1 bb ss hvb
  go_enter Try.func46, Try.ntmps46
  go_wp2_with fail
  refine (checkComp_is n h b s 0 _ hc).mono ?_
  rintro e w1 ⟨rfl, hb1⟩
  have hs1 := hb1.size
  try simp at hs1
  have c0 : w1.cell? ⟨w.heap.size + 1, 0, none⟩ = some (.int .i64 0) := by rw [(bcell hb1).1 _ _ (by first | (simp; done) | (simp; omega) | omega)]; simp [go_sem, World.cell?_alloc_past]
  have c1 : w1.cell? ⟨w.heap.size + 1, 1, none⟩ = some (.int .i64 0) := by rw [(bcell hb1).1 _ _ (by first | (simp; done) | (simp; omega) | omega)]; simp [go_sem, World.cell?_alloc_past]
  have k0 : w1.cell? ⟨w.heap.size, 0, none⟩ = some (.int .i64 n) := by rw [(bcell hb1).1 _ _ (by first | (simp; done) | (simp; omega) | omega)]; simp [go_sem, World.cell?_alloc_past]
  have k1 : w1.cell? ⟨w.heap.size, 1, none⟩ = some (.int .i64 h) := by rw [(bcell hb1).1 _ _ (by first | (simp; done) | (simp; omega) | omega)]; simp [go_sem, World.cell?_alloc_past]
  have k2 : w1.cell? ⟨w.heap.size, 2, none⟩ = some (.int .i64 b) := by rw [(bcell hb1).1 _ _ (by first | (simp; done) | (simp; omega) | omega)]; simp [go_sem, World.cell?_alloc_past]
  have k3 : w1.cell? ⟨w.heap.size, 3, none⟩ = some (.int .i64 s) := by rw [(bcell hb1).1 _ _ (by first | (simp; done) | (simp; omega) | omega)]; simp [go_sem, World.cell?_alloc_past]
  have f0 : ∀ j, w1.frozen? ⟨w.heap.size + 1, j, none⟩ = false := by intro j; rw [(bcell hb1).2 _ _ (by first | (simp; done) | (simp; omega) | omega)]; simp [go_sem]
  have o1 : w.heap.size < w1.heap.size := by omega
  have o2 : w.heap.size + 1 < w1.heap.size := by omega
  have o3 : w1.heap.size ≠ w.heap.size := by omega
  have o4 : w1.heap.size ≠ w.heap.size + 1 := by omega
  have hB1 : Below w.heap.size w w1 := (by (repeat (first | (with_reducible refine Below.drew ?_) | (with_reducible refine below_drewN ?_ _) | (with_reducible refine Below.alloc ?_ (by first | omega | (simp; done) | (simp; omega) | (simp at *; omega)) _) | (with_reducible refine Below.setCell ?_ (by first | omega | (simp; done) | (simp; omega) | (simp at *; omega)) _) | (with_reducible exact Below.refl _ _) | (with_reducible assumption) | (with_reducible refine Below.trans ?_ (Below.mono (by assumption) (by first | omega | (simp; done) | (simp; omega) | (simp at *; omega)))))))
  clear hb1
  go_wp2_with (first | (go_at_call 83; ((with_reducible refine (tcheckPressure_any _ _).mono ?_)); rintro e w' ⟨rfl, rfl⟩) | (go_at_call 99; ((with_reducible refine (tcheckFactor_any _ _).mono ?_)); rintro e w' ⟨rfl, rfl⟩) | (go_at_call 73; ((with_reducible refine (cF3 _ _ _ 0 _ _ hF (by simp [go_sem]) (by simp [go_sem]) (by simp [go_sem])).mono ?_)); rintro e w' ⟨rfl, rfl⟩))
  refine (HL.out _).mono ?_
  rintro e w2 ⟨rfl, hb2⟩
  have hs2 := hb2.size
  try simp at hs2
  have d0 : w2.cell? ⟨w.heap.size + 1, 0, none⟩ = some (.int .i64 0) := by rw [(bcell hb2).1 _ _ (by first | (simp; done) | (simp; omega) | omega)]; simp [go_sem, World.cell?_alloc_past, *]
  have d1 : w2.cell? ⟨w.heap.size + 1, 1, none⟩ = some (.int .i64 0) := by rw [(bcell hb2).1 _ _ (by first | (simp; done) | (simp; omega) | omega)]; simp [go_sem, World.cell?_alloc_past, *]
  have g0 : ∀ j, w2.frozen? ⟨w.heap.size + 1, j, none⟩ = false := by intro j; rw [(bcell hb2).2 _ _ (by first | (simp; done) | (simp; omega) | omega)]; simp [go_sem, *]
  have hB2 : Below w.heap.size w w2 := (by (repeat (first | (with_reducible refine Below.drew ?_) | (with_reducible refine below_drewN ?_ _) | (with_reducible refine Below.alloc ?_ (by first | omega | (simp; done) | (simp; omega) | (simp at *; omega)) _) | (with_reducible refine Below.setCell ?_ (by first | omega | (simp; done) | (simp; omega) | (simp at *; omega)) _) | (with_reducible exact Below.refl _ _) | (with_reducible assumption) | (with_reducible refine Below.trans ?_ (Below.mono (by assumption) (by first | omega | (simp; done) | (simp; omega) | (simp at *; omega)))))))
  clear hb2 c0 c1 f0 k0 k1 k2 k3 hB1
  go_wp2_with fail
  refine (HA.out _).mono ?_
  rintro e w3 ⟨rfl, hb3⟩
  have hs3 := hb3.size
  have o5 : w.heap.size + 1 < w2.heap.size := by omega
  replace d0 := ((bcell hb3).1 _ _ o5).trans d0
  replace d1 := ((bcell hb3).1 _ _ o5).trans d1
  replace g0 : ∀ j, w3.frozen? ⟨w.heap.size + 1, j, none⟩ = false := fun j => ((bcell hb3).2 _ j o5).trans (g0 j)
  have hB3 : Below w.heap.size w w3 := hB2.trans (hb3.mono hB2.size)
  clear hb3 hB2
  go_wp2_with fail
  refine (HD.out _).mono ?_
  rintro e w4 ⟨rfl, hb4⟩
  have hs4 := hb4.size
  have o6 : w.heap.size + 1 < w3.heap.size := by omega
  replace d0 := ((bcell hb4).1 _ _ o6).trans d0
  replace d1 := ((bcell hb4).1 _ _ o6).trans d1
  replace g0 : ∀ j, w4.frozen? ⟨w.heap.size + 1, j, none⟩ = false := fun j => ((bcell hb4).2 _ j o6).trans (g0 j)
  have hB4 : Below w.heap.size w w4 := hB3.trans (hb4.mono hB3.size)
  clear hb4 hB3
  go_wp2
  refine bodyPost_ret (v := .tuple #[.agg #[.int .i64 x, .int .i64 y], .int .i64 0]) (by simp [results, Try.results46, go_sem, World.cell?_alloc_past, *]) rfl ⟨rfl, ?_⟩
  (repeat (first | (with_reducible refine Below.drew ?_) | (with_reducible refine below_drewN ?_ _) | (with_reducible refine Below.alloc ?_ (by first | omega | (simp; done) | (simp; omega) | (simp at *; omega)) _) | (with_reducible refine Below.setCell ?_ (by first | omega | (simp; done) | (simp; omega) | (simp at *; omega)) _) | (with_reducible exact Below.refl _ _) | (with_reducible assumption) | (with_reducible refine Below.trans ?_ (Below.mono (by assumption) (by first | omega | (simp; done) | (simp; omega) | (simp at *; omega))))))
theorem refLimitAt_is (n h b s p f V x y : Int) (w : World) (f0 : 0 ≤ f) (f1 : f ≤ 1000) (b0 : 0 ≤ b) (b1 : b ≤ 10000) (s0 : 1000 ≤ s) (s1 : s ≤ 10000) (p0 : 400 ≤ p) (p1 : p ≤ 31100) (hV : Hid (limV b s f p = V)) (hx : Hid (V / 1000 = x)) (hy : Hid ((V + 1000 - 1) / 1000 = y)) :
    Calls Try.prog 50 #[.agg #[.int .i64 n, .int .i64 h, .int .i64 b, .int .i64 s], .int .i64 p, .int .i64 f] w fun e w' => e = .returned (.agg #[.int .i64 x, .int .i64 y]) ∧ Below w.heap.size w w' := by
  have hvb := lim_bd f0 f1 b0 b1 s0 s1 (show 0 ≤ p by omega) p1
  rw [hV.out] at hvb
  have HL : Hid (∀ w, Calls Try.prog 104 #[.agg #[.int .i64 n, .int .i64 h, .int .i64 b, .int .i64 s], .int .i64 p, .int .i64 f] w fun e w' => e = .returned (.int .i64 V) ∧ Below w.heap.size w w') := fun w => refLimit_is n h b s f p V w f0 f1 b0 b1 s0 s1 (by omega) p1 hV
  have HF : Hid (∀ w, Calls Try.prog 105 #[.int .i64 V, .int .i64 1000] w fun e w' => e = .returned (.int .i64 x) ∧ w = w') := fun w => by rw [← hx.out]; exact baseFloor_nn V 1000 w hvb.1 (by omega) (by omega) (by omega)
  have HC : Hid (∀ w, Calls Try.prog 106 #[.int .i64 V, .int .i64 1000] w fun e w' => e = .returned (.int .i64 y) ∧ w = w') := fun w => by rw [← hy.out]; exact baseCeil_nn V 1000 w hvb.1 (by omega) (by omega) (by omega)
  clear hV hx hy f0 f1 b0 b1 s0 s1 p0 p1 hvb
  go_enter Try.func50, Try.ntmps50
  go_wp2_with fail
  refine (HL.out _).mono ?_
  rintro e w1 ⟨rfl, hb1⟩
  have hs1 := hb1.size
  try simp at hs1
  have c0 : w1.cell? ⟨w.heap.size + 1, 0, none⟩ = some (.int .i64 0) := by rw [(bcell hb1).1 _ _ (by first | (simp; done) | (simp; omega) | omega)]; simp [go_sem, World.cell?_alloc_past]
  have c1 : w1.cell? ⟨w.heap.size + 1, 1, none⟩ = some (.int .i64 0) := by rw [(bcell hb1).1 _ _ (by first | (simp; done) | (simp; omega) | omega)]; simp [go_sem, World.cell?_alloc_past]
  have f0 : ∀ j, w1.frozen? ⟨w.heap.size + 1, j, none⟩ = false := by intro j; rw [(bcell hb1).2 _ _ (by first | (simp; done) | (simp; omega) | omega)]; simp [go_sem]
  have o2 : w.heap.size + 1 < w1.heap.size := by omega
  have o4 : w1.heap.size ≠ w.heap.size + 1 := by omega
  have hB1 : Below w.heap.size w w1 := (by (repeat (first | (with_reducible refine Below.drew ?_) | (with_reducible refine below_drewN ?_ _) | (with_reducible refine Below.alloc ?_ (by first | omega | (simp; done) | (simp; omega) | (simp at *; omega)) _) | (with_reducible refine Below.setCell ?_ (by first | omega | (simp; done) | (simp; omega) | (simp at *; omega)) _) | (with_reducible exact Below.refl _ _) | (with_reducible assumption) | (with_reducible refine Below.trans ?_ (Below.mono (by assumption) (by first | omega | (simp; done) | (simp; omega) | (simp at *; omega)))))))
  clear hb1
  go_wp2_with (first | (go_at_call 105; ((with_reducible refine (HF.out _).mono ?_)); rintro e w' ⟨rfl, rfl⟩) | (go_at_call 106; ((with_reducible refine (HC.out _).mono ?_)); rintro e w' ⟨rfl, rfl⟩))
  refine bodyPost_ret (v := .agg #[.int .i64 x, .int .i64 y]) (by simp [results, Try.results50, go_sem, World.cell?_alloc_past, *]) rfl ⟨rfl, ?_⟩
  (repeat (first | (with_reducible refine Below.drew ?_) | (with_reducible refine below_drewN ?_ _) | (with_reducible refine Below.alloc ?_ (by first | omega | (simp; done) | (simp; omega) | (simp at *; omega)) _) | (with_reducible refine Below.setCell ?_ (by first | omega | (simp; done) | (simp; omega) | (simp at *; omega)) _) | (with_reducible exact Below.refl _ _) | (with_reducible assumption) | (with_reducible refine Below.trans ?_ (Below.mono (by assumption) (by first | omega | (simp; done) | (simp; omega) | (simp at *; omega))))))
end Go.Proofs.Ytchfhhmmjioajaa

/- Whether loads keep the limits at a pressure: tissue.keptAt. -/
namespace Go.Proofs.Ytchfhhmmjioajaa
open Go.ChangeShapes Go.WideShapes Go.ChangeAt Go.RowKit
set_option linter.unusedVariables false
set_option linter.unusedSimpArgs false
attribute [local go_sem ↓] Go.wp_at_zero Go.wp_at_succ
/-- Whether loads keep the limits, with an answer so far: 0 not, 1 perhaps, 2 surely. -/
def keptR (p f : Int) : List Cm → List Ld → Int → Int
  | x :: T, y :: L, a => if 1000 * (y.a + y.c) ≤ limV x.b x.s f p then keptR p f T L (if 1000 * (y.b + y.d) ≤ limV x.b x.s f p then a else 1) else 0
  | _, _, a => a
theorem keptR_drop {p f : Int} {T : List Cm} {L : List Ld} {k : Nat} (hk : k < T.length) (hk' : k < L.length) (a : Int) : keptR p f (T.drop k) (L.drop k) a = if 1000 * (L[k].a + L[k].c) ≤ limV T[k].b T[k].s f p then keptR p f (T.drop (k + 1)) (L.drop (k + 1)) (if 1000 * (L[k].b + L[k].d) ≤ limV T[k].b T[k].s f p then a else 1) else 0 := by
  rw [List.drop_eq_getElem_cons hk, List.drop_eq_getElem_cons hk', keptR]
theorem keptR_end {p f : Int} {T : List Cm} {L : List Ld} {k : Nat} (hk : T.length ≤ k) (a : Int) : keptR p f (T.drop k) (L.drop k) a = a := by
  rw [List.drop_eq_nil_of_le hk, keptR]
  intro x T' y L' h; cases h
set_option maxRecDepth 100000 in
set_option maxHeartbeats 4000000 in
theorem keptAt_any (T : List Cm) (L : List Ld) (A B : Option Addr) (cap cap' : Nat) (p f E : Int) (w : World) (HFit : Hid (Fit T L)) (p0 : 400 ≤ p) (p1 : p ≤ 31100) (f0 : 0 ≤ f) (f1 : f ≤ 1000) (hE : Hid (keptR p f T L 2 = E)) (HT : Hid (SlCm w A T)) (HL : Hid (SlLd w B L)) :
    Calls Try.prog 103 #[.slice A T.length cap, .slice B L.length cap', .int .i64 p, .int .i64 f] w fun e w' => e = .returned (.int .i64 E) ∧ Below w.heap.size w w' := by
  have hlen : T.length ≤ L.length := by rw [HFit.out.len]; exact Nat.le_refl _
  have hmost := HFit.out.most
  go_enter Try.func103, Try.ntmps103
  go_wp2
  go_loopw [9, 16] (fun a i wr => ∃ (k : Nat) (x : Int), k ≤ T.length ∧ i = .int .i64 k ∧ a = .int .i64 x ∧ Hid (keptR p f (T.drop k) (L.drop k) x = E) ∧ Below w.heap.size w wr) (fun _ i _ => T.length - (intOf i).toNat)
  case atStart => exact ⟨0, 2, by omega, rfl, rfl, hE, (by (repeat (first | (with_reducible refine Below.drew ?_) | (with_reducible refine below_drewN ?_ _) | (with_reducible refine Below.alloc ?_ (by first | omega | (simp; done) | (simp; omega) | (simp at *; omega)) _) | (with_reducible refine Below.setCell ?_ (by first | omega | (simp; done) | (simp; omega) | (simp at *; omega)) _) | (with_reducible exact Below.refl _ _) | (with_reducible assumption) | (with_reducible refine Below.trans ?_ (Below.mono (by assumption) (by first | omega | (simp; done) | (simp; omega) | (simp at *; omega)))))))⟩
  case round =>
    clear hE
    obtain ⟨k, x, hk, rfl, rfl, hx, hB⟩ := hrel
    by_cases hkl : k < T.length
    · have hkl2 : (k : Int) < T.length := by omega
      have hkl' : k < L.length := by omega
      have hkl3 : (k : Int) < L.length := by omega
      rcases (HT.out.below hB : SlCm wr A T) with hnil | ⟨pb, po, hAA, plt, PT⟩
      · rw [hnil] at hkl; simp at hkl
      rcases (HL.out.below hB : SlLd wr B L) with hnil | ⟨lb, lo, hBB, llt, PL⟩
      · rw [hnil] at hkl'; simp at hkl'
      subst hAA hBB
      obtain ⟨c0, c1, c2, c3⟩ := PT k hkl
      obtain ⟨d0, d1, d2, d3⟩ := PL k hkl'
      obtain ⟨q1, q2, q3, q4⟩ := cmp_ok (HFit.out.cm k hkl)
      obtain ⟨q5, q6⟩ := lodE_ok (HFit.out.ld k hkl')
      have hst := keptR_drop (p := p) (f := f) hkl hkl' x
      rw [hx.out] at hst
      obtain ⟨n, hn⟩ : ∃ z, Hid (T[k].n = z) := ⟨T[k].n, rfl⟩
      obtain ⟨h, hh⟩ : ∃ z, Hid (T[k].h = z) := ⟨T[k].h, rfl⟩
      obtain ⟨b, hb⟩ : ∃ z, Hid (T[k].b = z) := ⟨T[k].b, rfl⟩
      obtain ⟨s, hs⟩ : ∃ z, Hid (T[k].s = z) := ⟨T[k].s, rfl⟩
      obtain ⟨la, hla⟩ : ∃ z, Hid (L[k].a = z) := ⟨L[k].a, rfl⟩
      obtain ⟨lb', hlb⟩ : ∃ z, Hid (L[k].b = z) := ⟨L[k].b, rfl⟩
      obtain ⟨lc, hlc⟩ : ∃ z, Hid (L[k].c = z) := ⟨L[k].c, rfl⟩
      obtain ⟨ld', hld⟩ : ∃ z, Hid (L[k].d = z) := ⟨L[k].d, rfl⟩
      rw [hn.out] at c0
      rw [hh.out] at c1
      rw [hb.out] at c2 q3 hst
      rw [hs.out] at c3 q4 hst
      rw [hla.out] at d0 q5 hst
      rw [hlb.out] at d1 q5 hst
      rw [hlc.out] at d2 q6 hst
      rw [hld.out] at d3 q6 hst
      obtain ⟨P, hP⟩ : ∃ z, Hid (f * 1000 * b = z) := ⟨_, rfl⟩
      obtain ⟨Q, hQ⟩ : ∃ z, Hid (1000000 + f * (s - 1000) = z) := ⟨_, rfl⟩
      obtain ⟨X, hX⟩ : ∃ z, Hid (la + lc = z) := ⟨_, rfl⟩
      obtain ⟨Y, hY⟩ : ∃ z, Hid (lb' + ld' = z) := ⟨_, rfl⟩
      obtain ⟨V, hV⟩ : ∃ z, Hid (limV b s f p = z) := ⟨_, rfl⟩
      have bb := base_bd f0 f1 q3.1 q3.2
      have ss := slope_bd f0 f1 q4.1 q4.2
      rw [hP.out] at bb
      rw [hQ.out] at ss
      have hVV : Hid (P + Q * p = V) := by show _ = _; rw [← hP.out, ← hQ.out]; exact hV.out
      have x0 : 0 ≤ X ∧ X ≤ 200000000 := by rw [← hX.out]; omega
      have y0 : 0 ≤ Y ∧ Y ≤ 200000000 := by rw [← hY.out]; omega
      rw [hX.out, hY.out, hV.out] at hst
      have HL1 := Lib.hid (fun w => limitOf_x n h b s f P Q w ⟨f0, f1⟩ q3 q4 hP.out hQ.out)
      have HE1 := Lib.hid (fun w => endsOf_x la lb' lc ld' X Y w ⟨by omega, by omega⟩ ⟨by omega, by omega⟩ ⟨by omega, by omega⟩ ⟨by omega, by omega⟩ hX.out hY.out)
      have HST := Lib.hid hst
      clear hst hx PT PL hn hh hb hs hla hlb hlc hld hP hQ hX hY hV q1 q2 q3 q4 q5 q6
      go_upto_region 5 with (fail)
      generalize hw4 : wr.alloc (.cells #[.int .i64 n, .int .i64 h, .int .i64 b, .int .i64 s] 78) = w4
      have hb4 : Below wr.heap.size wr w4 := by rw [← hw4]; exact (Below.refl _ _).alloc (Nat.le_refl _) _
      have e0 : w4.cell? ⟨wr.heap.size, 0, none⟩ = some (.int .i64 n) := by rw [← hw4]; simp [go_sem]
      have e1 : w4.cell? ⟨wr.heap.size, 1, none⟩ = some (.int .i64 h) := by rw [← hw4]; simp [go_sem]
      have e2 : w4.cell? ⟨wr.heap.size, 2, none⟩ = some (.int .i64 b) := by rw [← hw4]; simp [go_sem]
      have e3 : w4.cell? ⟨wr.heap.size, 3, none⟩ = some (.int .i64 s) := by rw [← hw4]; simp [go_sem]
      have l11 : wr.heap.size < w4.heap.size := by rw [← hw4]; simp
      have hB4 : Below w.heap.size w w4 := hB.trans (hb4.mono hB.size)
      have mq : lb < w4.heap.size := by omega
      replace d0 := (hb4.cell (p := ⟨lb, lo + k * 4, none⟩) llt).trans d0
      replace d1 := (hb4.cell (p := ⟨lb, lo + k * 4 + 1, none⟩) llt).trans d1
      replace d2 := (hb4.cell (p := ⟨lb, lo + k * 4 + 2, none⟩) llt).trans d2
      replace d3 := (hb4.cell (p := ⟨lb, lo + k * 4 + 3, none⟩) llt).trans d3
      clear hw4 hb4 hB c0 c1 c2 c3
      go_cut [12, 13, 16] from 16 to 41 (fun s12 s13 s16 wx => s16 = .int .i64 k ∧ R8 w4 P Q X Y s12 s13 wx)
      case first =>
        have HS : ∀ w', Below w4.heap.size w4 w' → w'.cell? ⟨wr.heap.size, 0, none⟩ = some (.int .i64 n) ∧ w'.cell? ⟨wr.heap.size, 1, none⟩ = some (.int .i64 h) ∧ w'.cell? ⟨wr.heap.size, 2, none⟩ = some (.int .i64 b) ∧ w'.cell? ⟨wr.heap.size, 3, none⟩ = some (.int .i64 s) ∧ w'.cell? ⟨lb, lo + k * 4, none⟩ = some (.int .i64 la) ∧ w'.cell? ⟨lb, lo + k * 4 + 1, none⟩ = some (.int .i64 lb') ∧ w'.cell? ⟨lb, lo + k * 4 + 2, none⟩ = some (.int .i64 lc) ∧ w'.cell? ⟨lb, lo + k * 4 + 3, none⟩ = some (.int .i64 ld') := fun w' hb => ⟨(hb.cell (p := ⟨wr.heap.size, 0, none⟩) l11).trans e0, (hb.cell (p := ⟨wr.heap.size, 1, none⟩) l11).trans e1, (hb.cell (p := ⟨wr.heap.size, 2, none⟩) l11).trans e2, (hb.cell (p := ⟨wr.heap.size, 3, none⟩) l11).trans e3, (hb.cell (p := ⟨lb, lo + k * 4, none⟩) mq).trans d0, (hb.cell (p := ⟨lb, lo + k * 4 + 1, none⟩) mq).trans d1, (hb.cell (p := ⟨lb, lo + k * 4 + 2, none⟩) mq).trans d2, (hb.cell (p := ⟨lb, lo + k * 4 + 3, none⟩) mq).trans d3⟩
        have HS' := Lib.hid HS
        clear HS
        refine wp_region_held_drew (S := (fun w' => w'.cell? ⟨wr.heap.size, 0, none⟩ = some (.int .i64 n) ∧ w'.cell? ⟨wr.heap.size, 1, none⟩ = some (.int .i64 h) ∧ w'.cell? ⟨wr.heap.size, 2, none⟩ = some (.int .i64 b) ∧ w'.cell? ⟨wr.heap.size, 3, none⟩ = some (.int .i64 s) ∧ w'.cell? ⟨lb, lo + k * 4, none⟩ = some (.int .i64 la) ∧ w'.cell? ⟨lb, lo + k * 4 + 1, none⟩ = some (.int .i64 lb') ∧ w'.cell? ⟨lb, lo + k * 4 + 2, none⟩ = some (.int .i64 lc) ∧ w'.cell? ⟨lb, lo + k * 4 + 3, none⟩ = some (.int .i64 ld'))) (by kernel_rfl) (by exact HS'.out _ (Below.refl w4.heap.size w4).drew) (fun hHeld => ?_)
        refine wpAnyH_take (i := 0) (oi := ⟨some 21, _, _, _, _, _⟩) (v := ?_) rfl (by kernel_rfl) (by kernel_rfl) (by kernel_rfl) (fun _ _ _ h => h) (Or.inl ⟨by kernel_rfl, ?_⟩) (by assumption) ?_
        rotate_left
        · (intro w hSw; (try dsimp only at hSw); go_simp; all_goals with_reducible rfl)
        try simp only [Act.put, List.setIfInBounds_toArray, List.set_cons_zero, List.set_cons_succ]
        refine wpAnyH_take (i := 1) (oi := ⟨some 22, _, _, _, _, _⟩) (v := ?_) rfl (by kernel_rfl) (by kernel_rfl) (by kernel_rfl) (fun _ _ _ h => h) (Or.inl ⟨by kernel_rfl, ?_⟩) (by assumption) ?_
        rotate_left
        · (intro w hSw; (try dsimp only at hSw); go_simp; all_goals with_reducible rfl)
        try simp only [Act.put, List.setIfInBounds_toArray, List.set_cons_zero, List.set_cons_succ]
        refine wpAnyH_take (i := 3) (oi := ⟨some 24, _, _, _, _, _⟩) (v := ?_) rfl (by kernel_rfl) (by kernel_rfl) (by kernel_rfl) (fun _ _ _ h => h) (Or.inl ⟨by kernel_rfl, ?_⟩) (by assumption) ?_
        rotate_left
        · (intro w hSw; (try dsimp only at hSw); go_simp; all_goals with_reducible rfl)
        try simp only [Act.put, List.setIfInBounds_toArray, List.set_cons_zero, List.set_cons_succ]
        refine wpAnyH_take (i := 4) (oi := ⟨some 25, _, _, _, _, _⟩) (v := ?_) rfl (by kernel_rfl) (by kernel_rfl) (by kernel_rfl) (fun _ _ _ h => h) (Or.inl ⟨by kernel_rfl, ?_⟩) (by assumption) ?_
        rotate_left
        · (intro w hSw; (try dsimp only at hSw); go_simp; all_goals with_reducible rfl)
        try simp only [Act.put, List.setIfInBounds_toArray, List.set_cons_zero, List.set_cons_succ]
        refine wpAnyH_take (i := 5) (oi := ⟨some 26, _, _, _, _, _⟩) (v := ?_) rfl (by kernel_rfl) (by kernel_rfl) (by kernel_rfl) (fun _ _ _ h => h) (Or.inl ⟨by kernel_rfl, ?_⟩) (by assumption) ?_
        rotate_left
        · (intro w hSw; (try dsimp only at hSw); go_simp; all_goals with_reducible rfl)
        try simp only [Act.put, List.setIfInBounds_toArray, List.set_cons_zero, List.set_cons_succ]
        refine wpAnyH_take (i := 6) (oi := ⟨some 27, _, _, _, _, _⟩) (v := ?_) rfl (by kernel_rfl) (by kernel_rfl) (by kernel_rfl) (fun _ _ _ h => h) (Or.inl ⟨by kernel_rfl, ?_⟩) (by assumption) ?_
        rotate_left
        · (intro w hSw; (try dsimp only at hSw); go_simp; all_goals with_reducible rfl)
        try simp only [Act.put, List.setIfInBounds_toArray, List.set_cons_zero, List.set_cons_succ]
        have hB0 : Below w4.heap.size w4 w4.drew := (Below.refl w4.heap.size w4).drew
        generalize hdr : w4.drew = u0 at *
        clear hdr
        refine wpAnyH_ready (rs := [2, 8, 9]) (by kernel_rfl) (by simp) ?_
        refine AllReadyH.cons rfl (fun K hK => ?_) (AllReadyH.cons rfl (fun K hK => ?_) (AllReadyH.cons rfl (fun K hK => ?_) (AllReadyH.nil)))
        · skip
          go_simp
          refine (HL1.out _).mono ?_
          rintro e u1 ⟨rfl, hb1⟩
          have hB1 : Below w4.heap.size w4 u1 := (hB0).trans (hb1.mono (hB0).size)
          go_wp2_with fail
          refine hK.out _ _ (HS'.out _ (hB1)) (fun hHeld => ?_)
          clear hK K
          try simp only [Act.put, List.setIfInBounds_toArray, List.set_cons_zero, List.set_cons_succ]
          refine wpAnyH_ready (rs := [7, 8, 9]) (by kernel_rfl) (by simp) ?_
          refine AllReadyH.cons rfl (fun K hK => ?_) (AllReadyH.cons rfl (fun K hK => ?_) (AllReadyH.cons rfl (fun K hK => ?_) (AllReadyH.nil)))
          · skip
            go_simp
            refine (HE1.out _).mono ?_
            rintro e u2 ⟨rfl, hb2⟩
            have hB2 : Below w4.heap.size w4 u2 := (hB1).trans (hb2.mono (hB1).size)
            go_wp2_with fail
            refine hK.out _ _ (HS'.out _ (hB2)) (fun hHeld => ?_)
            clear hK K
            try simp only [Act.put, List.setIfInBounds_toArray, List.set_cons_zero, List.set_cons_succ]
            refine wpAnyH_ready (rs := [8, 9]) (by kernel_rfl) (by simp) ?_
            refine AllReadyH.cons rfl (fun K hK => ?_) (AllReadyH.cons rfl (fun K hK => ?_) (AllReadyH.nil))
            · skip
              go_simp
              go_wp2_with fail
              refine hK.out _ _ (HS'.out _ ((hB2).alloc (hB2).size _)) (fun hHeld => ?_)
              clear hK K
              try simp only [Act.put, List.setIfInBounds_toArray, List.set_cons_zero, List.set_cons_succ]
              generalize hq3 : u2.alloc (.cells #[.int .i64 0, .int .i64 0] 145) = u3
              have hb3 : Below u2.heap.size u2 u3 := by rw [← hq3]; exact (Below.refl _ _).alloc (Nat.le_refl _) _
              have hB3 : Below w4.heap.size w4 u3 := (hB2).trans (hb3.mono (hB2).size)
              have h8_3 : (∀ i, i < 2 → ∃ v, u3.cell? ⟨u2.heap.size, i, none⟩ = some v) ∧ (∀ j, u3.frozen? ⟨u2.heap.size, j, none⟩ = false) := by rw [← hq3]; exact new2_is u2 _ _ _
              have q8_3 : u2.heap.size < u3.heap.size := by rw [← hq3]; simp
              have g8 : w4.heap.size ≤ u2.heap.size := (hB2).size
              clear hq3
              refine wpAnyH_ready (rs := [9]) (by kernel_rfl) (by simp) ?_
              refine AllReadyH.cons rfl (fun K hK => ?_) (AllReadyH.nil)
              go_simp
              go_wp2_with fail
              refine hK.out _ _ (HS'.out _ ((hB3).alloc (hB3).size _)) (fun hHeld => ?_)
              clear hK K
              try simp only [Act.put, List.setIfInBounds_toArray, List.set_cons_zero, List.set_cons_succ]
              generalize hq4 : u3.alloc (.cells #[.int .i64 0, .int .i64 0] 32) = u4
              have hb4 : Below u3.heap.size u3 u4 := by rw [← hq4]; exact (Below.refl _ _).alloc (Nat.le_refl _) _
              have hB4 : Below w4.heap.size w4 u4 := (hB3).trans (hb4.mono (hB3).size)
              have h8_4 := has2_below (b := u2.heap.size) h8_3 hb4 q8_3
              have q8_4 : u2.heap.size < u4.heap.size := Nat.lt_of_lt_of_le q8_3 hb4.size
              have h9_4 : (∀ i, i < 2 → ∃ v, u4.cell? ⟨u3.heap.size, i, none⟩ = some v) ∧ (∀ j, u4.frozen? ⟨u3.heap.size, j, none⟩ = false) := by rw [← hq4]; exact new2_is u3 _ _ _
              have q9_4 : u3.heap.size < u4.heap.size := by rw [← hq4]; simp
              have g9 : w4.heap.size ≤ u3.heap.size := (hB3).size
              clear hq4
              obtain ⟨⟨ev0, e0⟩, ⟨ev1, e1⟩⟩ := And.intro (h8_4.1 0 (by omega)) (h8_4.1 1 (by omega))
              have ef := h8_4.2
              refine wpAnyH_ready (rs := [10]) (by kernel_rfl) (by simp) ?_
              refine AllReadyH.cons rfl (fun K hK => ?_) (AllReadyH.nil)
              go_simp
              go_wp2_with fail
              refine hK.out _ _ (HS'.out _ (set2_below hB4 g8)) (fun hHeld => ?_)
              clear hK K
              try simp only [Act.put, List.setIfInBounds_toArray, List.set_cons_zero, List.set_cons_succ]
              have HH := set2_is (X := u4) (b := u2.heap.size) (.int .i64 P) (.int .i64 Q) h8_4.1 h8_4.2
              unfold set2 at HH
              have hBs : Below w4.heap.size w4 (set2 u4 u2.heap.size (.int .i64 P) (.int .i64 Q)) := set2_below hB4 g8
              unfold set2 at hBs
              generalize hs1 : (u4.setCell ⟨u2.heap.size, 0, none⟩ (.int .i64 P)).setCell ⟨u2.heap.size, 1, none⟩ (.int .i64 Q) = x1 at *
              obtain ⟨t0, t1, t5, t6, t7, t8⟩ := HH
              have hnn : u2.heap.size ≠ u3.heap.size := by omega
              have hn2 : u3.heap.size ≠ u2.heap.size := by omega
              have hs13 : (∀ i, i < 2 → ∃ v, x1.cell? ⟨u3.heap.size, i, none⟩ = some v) ∧ (∀ j, x1.frozen? ⟨u3.heap.size, j, none⟩ = false) := ⟨fun i hi => by obtain ⟨v, hv⟩ := h9_4.1 i hi; exact ⟨v, (t6 _ _ hn2).trans hv⟩, fun j => (World.frozen?_of_block (a := ⟨u3.heap.size, j, none⟩) (t7 _ hn2)).trans (h9_4.2 j)⟩
              obtain ⟨⟨av0, a0⟩, ⟨av1, a1⟩⟩ := And.intro (hs13.1 0 (by omega)) (hs13.1 1 (by omega))
              have af := hs13.2
              have k12 : u2.heap.size < x1.heap.size := by rw [t8]; exact q8_4
              have k13 : u3.heap.size < x1.heap.size := by rw [t8]; exact q9_4
              have T0 := Lib.hid t0
              have T1 := Lib.hid t1
              clear t0 t1 t5 t6 t7 t8 hs1 e0 e1 ef
              refine wpAnyH_ready (rs := [11]) (by kernel_rfl) (by simp) ?_
              refine AllReadyH.cons rfl (fun K hK => ?_) (AllReadyH.nil)
              go_simp
              go_wp2_with fail
              refine hK.out _ _ (HS'.out _ (set2_below hBs g9)) (fun hHeld => ?_)
              clear hK K
              try simp only [Act.put, List.setIfInBounds_toArray, List.set_cons_zero, List.set_cons_succ]
              refine wpAnyH_done (by kernel_rfl) ?_ _
              go_wp2_with fail
              go_meet
              exact ⟨rfl, R8.of hBs g8 k12 g9 k13 hnn T0.out T1.out hs13⟩
            · skip
              go_simp
              go_wp2_with fail
              refine hK.out _ _ (HS'.out _ ((hB2).alloc (hB2).size _)) (fun hHeld => ?_)
              clear hK K
              try simp only [Act.put, List.setIfInBounds_toArray, List.set_cons_zero, List.set_cons_succ]
              generalize hq3 : u2.alloc (.cells #[.int .i64 0, .int .i64 0] 32) = u3
              have hb3 : Below u2.heap.size u2 u3 := by rw [← hq3]; exact (Below.refl _ _).alloc (Nat.le_refl _) _
              have hB3 : Below w4.heap.size w4 u3 := (hB2).trans (hb3.mono (hB2).size)
              have h9_3 : (∀ i, i < 2 → ∃ v, u3.cell? ⟨u2.heap.size, i, none⟩ = some v) ∧ (∀ j, u3.frozen? ⟨u2.heap.size, j, none⟩ = false) := by rw [← hq3]; exact new2_is u2 _ _ _
              have q9_3 : u2.heap.size < u3.heap.size := by rw [← hq3]; simp
              have g9 : w4.heap.size ≤ u2.heap.size := (hB2).size
              clear hq3
              refine wpAnyH_ready (rs := [8]) (by kernel_rfl) (by simp) ?_
              refine AllReadyH.cons rfl (fun K hK => ?_) (AllReadyH.nil)
              go_simp
              go_wp2_with fail
              refine hK.out _ _ (HS'.out _ ((hB3).alloc (hB3).size _)) (fun hHeld => ?_)
              clear hK K
              try simp only [Act.put, List.setIfInBounds_toArray, List.set_cons_zero, List.set_cons_succ]
              generalize hq4 : u3.alloc (.cells #[.int .i64 0, .int .i64 0] 145) = u4
              have hb4 : Below u3.heap.size u3 u4 := by rw [← hq4]; exact (Below.refl _ _).alloc (Nat.le_refl _) _
              have hB4 : Below w4.heap.size w4 u4 := (hB3).trans (hb4.mono (hB3).size)
              have h9_4 := has2_below (b := u2.heap.size) h9_3 hb4 q9_3
              have q9_4 : u2.heap.size < u4.heap.size := Nat.lt_of_lt_of_le q9_3 hb4.size
              have h8_4 : (∀ i, i < 2 → ∃ v, u4.cell? ⟨u3.heap.size, i, none⟩ = some v) ∧ (∀ j, u4.frozen? ⟨u3.heap.size, j, none⟩ = false) := by rw [← hq4]; exact new2_is u3 _ _ _
              have q8_4 : u3.heap.size < u4.heap.size := by rw [← hq4]; simp
              have g8 : w4.heap.size ≤ u3.heap.size := (hB3).size
              clear hq4
              obtain ⟨⟨ev0, e0⟩, ⟨ev1, e1⟩⟩ := And.intro (h8_4.1 0 (by omega)) (h8_4.1 1 (by omega))
              have ef := h8_4.2
              refine wpAnyH_ready (rs := [10]) (by kernel_rfl) (by simp) ?_
              refine AllReadyH.cons rfl (fun K hK => ?_) (AllReadyH.nil)
              go_simp
              go_wp2_with fail
              refine hK.out _ _ (HS'.out _ (set2_below hB4 g8)) (fun hHeld => ?_)
              clear hK K
              try simp only [Act.put, List.setIfInBounds_toArray, List.set_cons_zero, List.set_cons_succ]
              have HH := set2_is (X := u4) (b := u3.heap.size) (.int .i64 P) (.int .i64 Q) h8_4.1 h8_4.2
              unfold set2 at HH
              have hBs : Below w4.heap.size w4 (set2 u4 u3.heap.size (.int .i64 P) (.int .i64 Q)) := set2_below hB4 g8
              unfold set2 at hBs
              generalize hs1 : (u4.setCell ⟨u3.heap.size, 0, none⟩ (.int .i64 P)).setCell ⟨u3.heap.size, 1, none⟩ (.int .i64 Q) = x1 at *
              obtain ⟨t0, t1, t5, t6, t7, t8⟩ := HH
              have hnn : u3.heap.size ≠ u2.heap.size := by omega
              have hn2 : u2.heap.size ≠ u3.heap.size := by omega
              have hs13 : (∀ i, i < 2 → ∃ v, x1.cell? ⟨u2.heap.size, i, none⟩ = some v) ∧ (∀ j, x1.frozen? ⟨u2.heap.size, j, none⟩ = false) := ⟨fun i hi => by obtain ⟨v, hv⟩ := h9_4.1 i hi; exact ⟨v, (t6 _ _ hn2).trans hv⟩, fun j => (World.frozen?_of_block (a := ⟨u2.heap.size, j, none⟩) (t7 _ hn2)).trans (h9_4.2 j)⟩
              obtain ⟨⟨av0, a0⟩, ⟨av1, a1⟩⟩ := And.intro (hs13.1 0 (by omega)) (hs13.1 1 (by omega))
              have af := hs13.2
              have k12 : u3.heap.size < x1.heap.size := by rw [t8]; exact q8_4
              have k13 : u2.heap.size < x1.heap.size := by rw [t8]; exact q9_4
              have T0 := Lib.hid t0
              have T1 := Lib.hid t1
              clear t0 t1 t5 t6 t7 t8 hs1 e0 e1 ef
              refine wpAnyH_ready (rs := [11]) (by kernel_rfl) (by simp) ?_
              refine AllReadyH.cons rfl (fun K hK => ?_) (AllReadyH.nil)
              go_simp
              go_wp2_with fail
              refine hK.out _ _ (HS'.out _ (set2_below hBs g9)) (fun hHeld => ?_)
              clear hK K
              try simp only [Act.put, List.setIfInBounds_toArray, List.set_cons_zero, List.set_cons_succ]
              refine wpAnyH_done (by kernel_rfl) ?_ _
              go_wp2_with fail
              go_meet
              exact ⟨rfl, R8.of hBs g8 k12 g9 k13 hnn T0.out T1.out hs13⟩
          · skip
            go_simp
            go_wp2_with fail
            refine hK.out _ _ (HS'.out _ ((hB1).alloc (hB1).size _)) (fun hHeld => ?_)
            clear hK K
            try simp only [Act.put, List.setIfInBounds_toArray, List.set_cons_zero, List.set_cons_succ]
            generalize hq2 : u1.alloc (.cells #[.int .i64 0, .int .i64 0] 145) = u2
            have hb2 : Below u1.heap.size u1 u2 := by rw [← hq2]; exact (Below.refl _ _).alloc (Nat.le_refl _) _
            have hB2 : Below w4.heap.size w4 u2 := (hB1).trans (hb2.mono (hB1).size)
            have h8_2 : (∀ i, i < 2 → ∃ v, u2.cell? ⟨u1.heap.size, i, none⟩ = some v) ∧ (∀ j, u2.frozen? ⟨u1.heap.size, j, none⟩ = false) := by rw [← hq2]; exact new2_is u1 _ _ _
            have q8_2 : u1.heap.size < u2.heap.size := by rw [← hq2]; simp
            have g8 : w4.heap.size ≤ u1.heap.size := (hB1).size
            clear hq2
            refine wpAnyH_ready (rs := [7, 9]) (by kernel_rfl) (by simp) ?_
            refine AllReadyH.cons rfl (fun K hK => ?_) (AllReadyH.cons rfl (fun K hK => ?_) (AllReadyH.nil))
            · skip
              go_simp
              refine (HE1.out _).mono ?_
              rintro e u3 ⟨rfl, hb3⟩
              have hB3 : Below w4.heap.size w4 u3 := (hB2).trans (hb3.mono (hB2).size)
              have h8_3 := has2_below (b := u1.heap.size) h8_2 hb3 q8_2
              have q8_3 : u1.heap.size < u3.heap.size := Nat.lt_of_lt_of_le q8_2 hb3.size
              go_wp2_with fail
              refine hK.out _ _ (HS'.out _ (hB3)) (fun hHeld => ?_)
              clear hK K
              try simp only [Act.put, List.setIfInBounds_toArray, List.set_cons_zero, List.set_cons_succ]
              refine wpAnyH_ready (rs := [9]) (by kernel_rfl) (by simp) ?_
              refine AllReadyH.cons rfl (fun K hK => ?_) (AllReadyH.nil)
              go_simp
              go_wp2_with fail
              refine hK.out _ _ (HS'.out _ ((hB3).alloc (hB3).size _)) (fun hHeld => ?_)
              clear hK K
              try simp only [Act.put, List.setIfInBounds_toArray, List.set_cons_zero, List.set_cons_succ]
              generalize hq4 : u3.alloc (.cells #[.int .i64 0, .int .i64 0] 32) = u4
              have hb4 : Below u3.heap.size u3 u4 := by rw [← hq4]; exact (Below.refl _ _).alloc (Nat.le_refl _) _
              have hB4 : Below w4.heap.size w4 u4 := (hB3).trans (hb4.mono (hB3).size)
              have h8_4 := has2_below (b := u1.heap.size) h8_3 hb4 q8_3
              have q8_4 : u1.heap.size < u4.heap.size := Nat.lt_of_lt_of_le q8_3 hb4.size
              have h9_4 : (∀ i, i < 2 → ∃ v, u4.cell? ⟨u3.heap.size, i, none⟩ = some v) ∧ (∀ j, u4.frozen? ⟨u3.heap.size, j, none⟩ = false) := by rw [← hq4]; exact new2_is u3 _ _ _
              have q9_4 : u3.heap.size < u4.heap.size := by rw [← hq4]; simp
              have g9 : w4.heap.size ≤ u3.heap.size := (hB3).size
              clear hq4
              obtain ⟨⟨ev0, e0⟩, ⟨ev1, e1⟩⟩ := And.intro (h8_4.1 0 (by omega)) (h8_4.1 1 (by omega))
              have ef := h8_4.2
              refine wpAnyH_ready (rs := [10]) (by kernel_rfl) (by simp) ?_
              refine AllReadyH.cons rfl (fun K hK => ?_) (AllReadyH.nil)
              go_simp
              go_wp2_with fail
              refine hK.out _ _ (HS'.out _ (set2_below hB4 g8)) (fun hHeld => ?_)
              clear hK K
              try simp only [Act.put, List.setIfInBounds_toArray, List.set_cons_zero, List.set_cons_succ]
              have HH := set2_is (X := u4) (b := u1.heap.size) (.int .i64 P) (.int .i64 Q) h8_4.1 h8_4.2
              unfold set2 at HH
              have hBs : Below w4.heap.size w4 (set2 u4 u1.heap.size (.int .i64 P) (.int .i64 Q)) := set2_below hB4 g8
              unfold set2 at hBs
              generalize hs1 : (u4.setCell ⟨u1.heap.size, 0, none⟩ (.int .i64 P)).setCell ⟨u1.heap.size, 1, none⟩ (.int .i64 Q) = x1 at *
              obtain ⟨t0, t1, t5, t6, t7, t8⟩ := HH
              have hnn : u1.heap.size ≠ u3.heap.size := by omega
              have hn2 : u3.heap.size ≠ u1.heap.size := by omega
              have hs13 : (∀ i, i < 2 → ∃ v, x1.cell? ⟨u3.heap.size, i, none⟩ = some v) ∧ (∀ j, x1.frozen? ⟨u3.heap.size, j, none⟩ = false) := ⟨fun i hi => by obtain ⟨v, hv⟩ := h9_4.1 i hi; exact ⟨v, (t6 _ _ hn2).trans hv⟩, fun j => (World.frozen?_of_block (a := ⟨u3.heap.size, j, none⟩) (t7 _ hn2)).trans (h9_4.2 j)⟩
              obtain ⟨⟨av0, a0⟩, ⟨av1, a1⟩⟩ := And.intro (hs13.1 0 (by omega)) (hs13.1 1 (by omega))
              have af := hs13.2
              have k12 : u1.heap.size < x1.heap.size := by rw [t8]; exact q8_4
              have k13 : u3.heap.size < x1.heap.size := by rw [t8]; exact q9_4
              have T0 := Lib.hid t0
              have T1 := Lib.hid t1
              clear t0 t1 t5 t6 t7 t8 hs1 e0 e1 ef
              refine wpAnyH_ready (rs := [11]) (by kernel_rfl) (by simp) ?_
              refine AllReadyH.cons rfl (fun K hK => ?_) (AllReadyH.nil)
              go_simp
              go_wp2_with fail
              refine hK.out _ _ (HS'.out _ (set2_below hBs g9)) (fun hHeld => ?_)
              clear hK K
              try simp only [Act.put, List.setIfInBounds_toArray, List.set_cons_zero, List.set_cons_succ]
              refine wpAnyH_done (by kernel_rfl) ?_ _
              go_wp2_with fail
              go_meet
              exact ⟨rfl, R8.of hBs g8 k12 g9 k13 hnn T0.out T1.out hs13⟩
            · skip
              go_simp
              go_wp2_with fail
              refine hK.out _ _ (HS'.out _ ((hB2).alloc (hB2).size _)) (fun hHeld => ?_)
              clear hK K
              try simp only [Act.put, List.setIfInBounds_toArray, List.set_cons_zero, List.set_cons_succ]
              generalize hq3 : u2.alloc (.cells #[.int .i64 0, .int .i64 0] 32) = u3
              have hb3 : Below u2.heap.size u2 u3 := by rw [← hq3]; exact (Below.refl _ _).alloc (Nat.le_refl _) _
              have hB3 : Below w4.heap.size w4 u3 := (hB2).trans (hb3.mono (hB2).size)
              have h8_3 := has2_below (b := u1.heap.size) h8_2 hb3 q8_2
              have q8_3 : u1.heap.size < u3.heap.size := Nat.lt_of_lt_of_le q8_2 hb3.size
              have h9_3 : (∀ i, i < 2 → ∃ v, u3.cell? ⟨u2.heap.size, i, none⟩ = some v) ∧ (∀ j, u3.frozen? ⟨u2.heap.size, j, none⟩ = false) := by rw [← hq3]; exact new2_is u2 _ _ _
              have q9_3 : u2.heap.size < u3.heap.size := by rw [← hq3]; simp
              have g9 : w4.heap.size ≤ u2.heap.size := (hB2).size
              clear hq3
              refine wpAnyH_ready (rs := [7]) (by kernel_rfl) (by simp) ?_
              refine AllReadyH.cons rfl (fun K hK => ?_) (AllReadyH.nil)
              go_simp
              refine (HE1.out _).mono ?_
              rintro e u4 ⟨rfl, hb4⟩
              have hB4 : Below w4.heap.size w4 u4 := (hB3).trans (hb4.mono (hB3).size)
              have h8_4 := has2_below (b := u1.heap.size) h8_3 hb4 q8_3
              have q8_4 : u1.heap.size < u4.heap.size := Nat.lt_of_lt_of_le q8_3 hb4.size
              have h9_4 := has2_below (b := u2.heap.size) h9_3 hb4 q9_3
              have q9_4 : u2.heap.size < u4.heap.size := Nat.lt_of_lt_of_le q9_3 hb4.size
              go_wp2_with fail
              refine hK.out _ _ (HS'.out _ (hB4)) (fun hHeld => ?_)
              clear hK K
              try simp only [Act.put, List.setIfInBounds_toArray, List.set_cons_zero, List.set_cons_succ]
              obtain ⟨⟨ev0, e0⟩, ⟨ev1, e1⟩⟩ := And.intro (h8_4.1 0 (by omega)) (h8_4.1 1 (by omega))
              have ef := h8_4.2
              refine wpAnyH_ready (rs := [10]) (by kernel_rfl) (by simp) ?_
              refine AllReadyH.cons rfl (fun K hK => ?_) (AllReadyH.nil)
              go_simp
              go_wp2_with fail
              refine hK.out _ _ (HS'.out _ (set2_below hB4 g8)) (fun hHeld => ?_)
              clear hK K
              try simp only [Act.put, List.setIfInBounds_toArray, List.set_cons_zero, List.set_cons_succ]
              have HH := set2_is (X := u4) (b := u1.heap.size) (.int .i64 P) (.int .i64 Q) h8_4.1 h8_4.2
              unfold set2 at HH
              have hBs : Below w4.heap.size w4 (set2 u4 u1.heap.size (.int .i64 P) (.int .i64 Q)) := set2_below hB4 g8
              unfold set2 at hBs
              generalize hs1 : (u4.setCell ⟨u1.heap.size, 0, none⟩ (.int .i64 P)).setCell ⟨u1.heap.size, 1, none⟩ (.int .i64 Q) = x1 at *
              obtain ⟨t0, t1, t5, t6, t7, t8⟩ := HH
              have hnn : u1.heap.size ≠ u2.heap.size := by omega
              have hn2 : u2.heap.size ≠ u1.heap.size := by omega
              have hs13 : (∀ i, i < 2 → ∃ v, x1.cell? ⟨u2.heap.size, i, none⟩ = some v) ∧ (∀ j, x1.frozen? ⟨u2.heap.size, j, none⟩ = false) := ⟨fun i hi => by obtain ⟨v, hv⟩ := h9_4.1 i hi; exact ⟨v, (t6 _ _ hn2).trans hv⟩, fun j => (World.frozen?_of_block (a := ⟨u2.heap.size, j, none⟩) (t7 _ hn2)).trans (h9_4.2 j)⟩
              obtain ⟨⟨av0, a0⟩, ⟨av1, a1⟩⟩ := And.intro (hs13.1 0 (by omega)) (hs13.1 1 (by omega))
              have af := hs13.2
              have k12 : u1.heap.size < x1.heap.size := by rw [t8]; exact q8_4
              have k13 : u2.heap.size < x1.heap.size := by rw [t8]; exact q9_4
              have T0 := Lib.hid t0
              have T1 := Lib.hid t1
              clear t0 t1 t5 t6 t7 t8 hs1 e0 e1 ef
              refine wpAnyH_ready (rs := [11]) (by kernel_rfl) (by simp) ?_
              refine AllReadyH.cons rfl (fun K hK => ?_) (AllReadyH.nil)
              go_simp
              go_wp2_with fail
              refine hK.out _ _ (HS'.out _ (set2_below hBs g9)) (fun hHeld => ?_)
              clear hK K
              try simp only [Act.put, List.setIfInBounds_toArray, List.set_cons_zero, List.set_cons_succ]
              refine wpAnyH_done (by kernel_rfl) ?_ _
              go_wp2_with fail
              go_meet
              exact ⟨rfl, R8.of hBs g8 k12 g9 k13 hnn T0.out T1.out hs13⟩
          · skip
            go_simp
            go_wp2_with fail
            refine hK.out _ _ (HS'.out _ ((hB1).alloc (hB1).size _)) (fun hHeld => ?_)
            clear hK K
            try simp only [Act.put, List.setIfInBounds_toArray, List.set_cons_zero, List.set_cons_succ]
            generalize hq2 : u1.alloc (.cells #[.int .i64 0, .int .i64 0] 32) = u2
            have hb2 : Below u1.heap.size u1 u2 := by rw [← hq2]; exact (Below.refl _ _).alloc (Nat.le_refl _) _
            have hB2 : Below w4.heap.size w4 u2 := (hB1).trans (hb2.mono (hB1).size)
            have h9_2 : (∀ i, i < 2 → ∃ v, u2.cell? ⟨u1.heap.size, i, none⟩ = some v) ∧ (∀ j, u2.frozen? ⟨u1.heap.size, j, none⟩ = false) := by rw [← hq2]; exact new2_is u1 _ _ _
            have q9_2 : u1.heap.size < u2.heap.size := by rw [← hq2]; simp
            have g9 : w4.heap.size ≤ u1.heap.size := (hB1).size
            clear hq2
            refine wpAnyH_ready (rs := [7, 8]) (by kernel_rfl) (by simp) ?_
            refine AllReadyH.cons rfl (fun K hK => ?_) (AllReadyH.cons rfl (fun K hK => ?_) (AllReadyH.nil))
            · skip
              go_simp
              refine (HE1.out _).mono ?_
              rintro e u3 ⟨rfl, hb3⟩
              have hB3 : Below w4.heap.size w4 u3 := (hB2).trans (hb3.mono (hB2).size)
              have h9_3 := has2_below (b := u1.heap.size) h9_2 hb3 q9_2
              have q9_3 : u1.heap.size < u3.heap.size := Nat.lt_of_lt_of_le q9_2 hb3.size
              go_wp2_with fail
              refine hK.out _ _ (HS'.out _ (hB3)) (fun hHeld => ?_)
              clear hK K
              try simp only [Act.put, List.setIfInBounds_toArray, List.set_cons_zero, List.set_cons_succ]
              refine wpAnyH_ready (rs := [8]) (by kernel_rfl) (by simp) ?_
              refine AllReadyH.cons rfl (fun K hK => ?_) (AllReadyH.nil)
              go_simp
              go_wp2_with fail
              refine hK.out _ _ (HS'.out _ ((hB3).alloc (hB3).size _)) (fun hHeld => ?_)
              clear hK K
              try simp only [Act.put, List.setIfInBounds_toArray, List.set_cons_zero, List.set_cons_succ]
              generalize hq4 : u3.alloc (.cells #[.int .i64 0, .int .i64 0] 145) = u4
              have hb4 : Below u3.heap.size u3 u4 := by rw [← hq4]; exact (Below.refl _ _).alloc (Nat.le_refl _) _
              have hB4 : Below w4.heap.size w4 u4 := (hB3).trans (hb4.mono (hB3).size)
              have h9_4 := has2_below (b := u1.heap.size) h9_3 hb4 q9_3
              have q9_4 : u1.heap.size < u4.heap.size := Nat.lt_of_lt_of_le q9_3 hb4.size
              have h8_4 : (∀ i, i < 2 → ∃ v, u4.cell? ⟨u3.heap.size, i, none⟩ = some v) ∧ (∀ j, u4.frozen? ⟨u3.heap.size, j, none⟩ = false) := by rw [← hq4]; exact new2_is u3 _ _ _
              have q8_4 : u3.heap.size < u4.heap.size := by rw [← hq4]; simp
              have g8 : w4.heap.size ≤ u3.heap.size := (hB3).size
              clear hq4
              obtain ⟨⟨ev0, e0⟩, ⟨ev1, e1⟩⟩ := And.intro (h8_4.1 0 (by omega)) (h8_4.1 1 (by omega))
              have ef := h8_4.2
              refine wpAnyH_ready (rs := [10]) (by kernel_rfl) (by simp) ?_
              refine AllReadyH.cons rfl (fun K hK => ?_) (AllReadyH.nil)
              go_simp
              go_wp2_with fail
              refine hK.out _ _ (HS'.out _ (set2_below hB4 g8)) (fun hHeld => ?_)
              clear hK K
              try simp only [Act.put, List.setIfInBounds_toArray, List.set_cons_zero, List.set_cons_succ]
              have HH := set2_is (X := u4) (b := u3.heap.size) (.int .i64 P) (.int .i64 Q) h8_4.1 h8_4.2
              unfold set2 at HH
              have hBs : Below w4.heap.size w4 (set2 u4 u3.heap.size (.int .i64 P) (.int .i64 Q)) := set2_below hB4 g8
              unfold set2 at hBs
              generalize hs1 : (u4.setCell ⟨u3.heap.size, 0, none⟩ (.int .i64 P)).setCell ⟨u3.heap.size, 1, none⟩ (.int .i64 Q) = x1 at *
              obtain ⟨t0, t1, t5, t6, t7, t8⟩ := HH
              have hnn : u3.heap.size ≠ u1.heap.size := by omega
              have hn2 : u1.heap.size ≠ u3.heap.size := by omega
              have hs13 : (∀ i, i < 2 → ∃ v, x1.cell? ⟨u1.heap.size, i, none⟩ = some v) ∧ (∀ j, x1.frozen? ⟨u1.heap.size, j, none⟩ = false) := ⟨fun i hi => by obtain ⟨v, hv⟩ := h9_4.1 i hi; exact ⟨v, (t6 _ _ hn2).trans hv⟩, fun j => (World.frozen?_of_block (a := ⟨u1.heap.size, j, none⟩) (t7 _ hn2)).trans (h9_4.2 j)⟩
              obtain ⟨⟨av0, a0⟩, ⟨av1, a1⟩⟩ := And.intro (hs13.1 0 (by omega)) (hs13.1 1 (by omega))
              have af := hs13.2
              have k12 : u3.heap.size < x1.heap.size := by rw [t8]; exact q8_4
              have k13 : u1.heap.size < x1.heap.size := by rw [t8]; exact q9_4
              have T0 := Lib.hid t0
              have T1 := Lib.hid t1
              clear t0 t1 t5 t6 t7 t8 hs1 e0 e1 ef
              refine wpAnyH_ready (rs := [11]) (by kernel_rfl) (by simp) ?_
              refine AllReadyH.cons rfl (fun K hK => ?_) (AllReadyH.nil)
              go_simp
              go_wp2_with fail
              refine hK.out _ _ (HS'.out _ (set2_below hBs g9)) (fun hHeld => ?_)
              clear hK K
              try simp only [Act.put, List.setIfInBounds_toArray, List.set_cons_zero, List.set_cons_succ]
              refine wpAnyH_done (by kernel_rfl) ?_ _
              go_wp2_with fail
              go_meet
              exact ⟨rfl, R8.of hBs g8 k12 g9 k13 hnn T0.out T1.out hs13⟩
            · skip
              go_simp
              go_wp2_with fail
              refine hK.out _ _ (HS'.out _ ((hB2).alloc (hB2).size _)) (fun hHeld => ?_)
              clear hK K
              try simp only [Act.put, List.setIfInBounds_toArray, List.set_cons_zero, List.set_cons_succ]
              generalize hq3 : u2.alloc (.cells #[.int .i64 0, .int .i64 0] 145) = u3
              have hb3 : Below u2.heap.size u2 u3 := by rw [← hq3]; exact (Below.refl _ _).alloc (Nat.le_refl _) _
              have hB3 : Below w4.heap.size w4 u3 := (hB2).trans (hb3.mono (hB2).size)
              have h9_3 := has2_below (b := u1.heap.size) h9_2 hb3 q9_2
              have q9_3 : u1.heap.size < u3.heap.size := Nat.lt_of_lt_of_le q9_2 hb3.size
              have h8_3 : (∀ i, i < 2 → ∃ v, u3.cell? ⟨u2.heap.size, i, none⟩ = some v) ∧ (∀ j, u3.frozen? ⟨u2.heap.size, j, none⟩ = false) := by rw [← hq3]; exact new2_is u2 _ _ _
              have q8_3 : u2.heap.size < u3.heap.size := by rw [← hq3]; simp
              have g8 : w4.heap.size ≤ u2.heap.size := (hB2).size
              clear hq3
              refine wpAnyH_ready (rs := [7]) (by kernel_rfl) (by simp) ?_
              refine AllReadyH.cons rfl (fun K hK => ?_) (AllReadyH.nil)
              go_simp
              refine (HE1.out _).mono ?_
              rintro e u4 ⟨rfl, hb4⟩
              have hB4 : Below w4.heap.size w4 u4 := (hB3).trans (hb4.mono (hB3).size)
              have h9_4 := has2_below (b := u1.heap.size) h9_3 hb4 q9_3
              have q9_4 : u1.heap.size < u4.heap.size := Nat.lt_of_lt_of_le q9_3 hb4.size
              have h8_4 := has2_below (b := u2.heap.size) h8_3 hb4 q8_3
              have q8_4 : u2.heap.size < u4.heap.size := Nat.lt_of_lt_of_le q8_3 hb4.size
              go_wp2_with fail
              refine hK.out _ _ (HS'.out _ (hB4)) (fun hHeld => ?_)
              clear hK K
              try simp only [Act.put, List.setIfInBounds_toArray, List.set_cons_zero, List.set_cons_succ]
              obtain ⟨⟨ev0, e0⟩, ⟨ev1, e1⟩⟩ := And.intro (h8_4.1 0 (by omega)) (h8_4.1 1 (by omega))
              have ef := h8_4.2
              refine wpAnyH_ready (rs := [10]) (by kernel_rfl) (by simp) ?_
              refine AllReadyH.cons rfl (fun K hK => ?_) (AllReadyH.nil)
              go_simp
              go_wp2_with fail
              refine hK.out _ _ (HS'.out _ (set2_below hB4 g8)) (fun hHeld => ?_)
              clear hK K
              try simp only [Act.put, List.setIfInBounds_toArray, List.set_cons_zero, List.set_cons_succ]
              have HH := set2_is (X := u4) (b := u2.heap.size) (.int .i64 P) (.int .i64 Q) h8_4.1 h8_4.2
              unfold set2 at HH
              have hBs : Below w4.heap.size w4 (set2 u4 u2.heap.size (.int .i64 P) (.int .i64 Q)) := set2_below hB4 g8
              unfold set2 at hBs
              generalize hs1 : (u4.setCell ⟨u2.heap.size, 0, none⟩ (.int .i64 P)).setCell ⟨u2.heap.size, 1, none⟩ (.int .i64 Q) = x1 at *
              obtain ⟨t0, t1, t5, t6, t7, t8⟩ := HH
              have hnn : u2.heap.size ≠ u1.heap.size := by omega
              have hn2 : u1.heap.size ≠ u2.heap.size := by omega
              have hs13 : (∀ i, i < 2 → ∃ v, x1.cell? ⟨u1.heap.size, i, none⟩ = some v) ∧ (∀ j, x1.frozen? ⟨u1.heap.size, j, none⟩ = false) := ⟨fun i hi => by obtain ⟨v, hv⟩ := h9_4.1 i hi; exact ⟨v, (t6 _ _ hn2).trans hv⟩, fun j => (World.frozen?_of_block (a := ⟨u1.heap.size, j, none⟩) (t7 _ hn2)).trans (h9_4.2 j)⟩
              obtain ⟨⟨av0, a0⟩, ⟨av1, a1⟩⟩ := And.intro (hs13.1 0 (by omega)) (hs13.1 1 (by omega))
              have af := hs13.2
              have k12 : u2.heap.size < x1.heap.size := by rw [t8]; exact q8_4
              have k13 : u1.heap.size < x1.heap.size := by rw [t8]; exact q9_4
              have T0 := Lib.hid t0
              have T1 := Lib.hid t1
              clear t0 t1 t5 t6 t7 t8 hs1 e0 e1 ef
              refine wpAnyH_ready (rs := [11]) (by kernel_rfl) (by simp) ?_
              refine AllReadyH.cons rfl (fun K hK => ?_) (AllReadyH.nil)
              go_simp
              go_wp2_with fail
              refine hK.out _ _ (HS'.out _ (set2_below hBs g9)) (fun hHeld => ?_)
              clear hK K
              try simp only [Act.put, List.setIfInBounds_toArray, List.set_cons_zero, List.set_cons_succ]
              refine wpAnyH_done (by kernel_rfl) ?_ _
              go_wp2_with fail
              go_meet
              exact ⟨rfl, R8.of hBs g8 k12 g9 k13 hnn T0.out T1.out hs13⟩
        · skip
          go_simp
          go_wp2_with fail
          refine hK.out _ _ (HS'.out _ ((hB0).alloc (hB0).size _)) (fun hHeld => ?_)
          clear hK K
          try simp only [Act.put, List.setIfInBounds_toArray, List.set_cons_zero, List.set_cons_succ]
          generalize hq1 : u0.alloc (.cells #[.int .i64 0, .int .i64 0] 145) = u1
          have hb1 : Below u0.heap.size u0 u1 := by rw [← hq1]; exact (Below.refl _ _).alloc (Nat.le_refl _) _
          have hB1 : Below w4.heap.size w4 u1 := (hB0).trans (hb1.mono (hB0).size)
          have h8_1 : (∀ i, i < 2 → ∃ v, u1.cell? ⟨u0.heap.size, i, none⟩ = some v) ∧ (∀ j, u1.frozen? ⟨u0.heap.size, j, none⟩ = false) := by rw [← hq1]; exact new2_is u0 _ _ _
          have q8_1 : u0.heap.size < u1.heap.size := by rw [← hq1]; simp
          have g8 : w4.heap.size ≤ u0.heap.size := (hB0).size
          clear hq1
          refine wpAnyH_ready (rs := [2, 9]) (by kernel_rfl) (by simp) ?_
          refine AllReadyH.cons rfl (fun K hK => ?_) (AllReadyH.cons rfl (fun K hK => ?_) (AllReadyH.nil))
          · skip
            go_simp
            refine (HL1.out _).mono ?_
            rintro e u2 ⟨rfl, hb2⟩
            have hB2 : Below w4.heap.size w4 u2 := (hB1).trans (hb2.mono (hB1).size)
            have h8_2 := has2_below (b := u0.heap.size) h8_1 hb2 q8_1
            have q8_2 : u0.heap.size < u2.heap.size := Nat.lt_of_lt_of_le q8_1 hb2.size
            go_wp2_with fail
            refine hK.out _ _ (HS'.out _ (hB2)) (fun hHeld => ?_)
            clear hK K
            try simp only [Act.put, List.setIfInBounds_toArray, List.set_cons_zero, List.set_cons_succ]
            refine wpAnyH_ready (rs := [7, 9]) (by kernel_rfl) (by simp) ?_
            refine AllReadyH.cons rfl (fun K hK => ?_) (AllReadyH.cons rfl (fun K hK => ?_) (AllReadyH.nil))
            · skip
              go_simp
              refine (HE1.out _).mono ?_
              rintro e u3 ⟨rfl, hb3⟩
              have hB3 : Below w4.heap.size w4 u3 := (hB2).trans (hb3.mono (hB2).size)
              have h8_3 := has2_below (b := u0.heap.size) h8_2 hb3 q8_2
              have q8_3 : u0.heap.size < u3.heap.size := Nat.lt_of_lt_of_le q8_2 hb3.size
              go_wp2_with fail
              refine hK.out _ _ (HS'.out _ (hB3)) (fun hHeld => ?_)
              clear hK K
              try simp only [Act.put, List.setIfInBounds_toArray, List.set_cons_zero, List.set_cons_succ]
              refine wpAnyH_ready (rs := [9]) (by kernel_rfl) (by simp) ?_
              refine AllReadyH.cons rfl (fun K hK => ?_) (AllReadyH.nil)
              go_simp
              go_wp2_with fail
              refine hK.out _ _ (HS'.out _ ((hB3).alloc (hB3).size _)) (fun hHeld => ?_)
              clear hK K
              try simp only [Act.put, List.setIfInBounds_toArray, List.set_cons_zero, List.set_cons_succ]
              generalize hq4 : u3.alloc (.cells #[.int .i64 0, .int .i64 0] 32) = u4
              have hb4 : Below u3.heap.size u3 u4 := by rw [← hq4]; exact (Below.refl _ _).alloc (Nat.le_refl _) _
              have hB4 : Below w4.heap.size w4 u4 := (hB3).trans (hb4.mono (hB3).size)
              have h8_4 := has2_below (b := u0.heap.size) h8_3 hb4 q8_3
              have q8_4 : u0.heap.size < u4.heap.size := Nat.lt_of_lt_of_le q8_3 hb4.size
              have h9_4 : (∀ i, i < 2 → ∃ v, u4.cell? ⟨u3.heap.size, i, none⟩ = some v) ∧ (∀ j, u4.frozen? ⟨u3.heap.size, j, none⟩ = false) := by rw [← hq4]; exact new2_is u3 _ _ _
              have q9_4 : u3.heap.size < u4.heap.size := by rw [← hq4]; simp
              have g9 : w4.heap.size ≤ u3.heap.size := (hB3).size
              clear hq4
              obtain ⟨⟨ev0, e0⟩, ⟨ev1, e1⟩⟩ := And.intro (h8_4.1 0 (by omega)) (h8_4.1 1 (by omega))
              have ef := h8_4.2
              refine wpAnyH_ready (rs := [10]) (by kernel_rfl) (by simp) ?_
              refine AllReadyH.cons rfl (fun K hK => ?_) (AllReadyH.nil)
              go_simp
              go_wp2_with fail
              refine hK.out _ _ (HS'.out _ (set2_below hB4 g8)) (fun hHeld => ?_)
              clear hK K
              try simp only [Act.put, List.setIfInBounds_toArray, List.set_cons_zero, List.set_cons_succ]
              have HH := set2_is (X := u4) (b := u0.heap.size) (.int .i64 P) (.int .i64 Q) h8_4.1 h8_4.2
              unfold set2 at HH
              have hBs : Below w4.heap.size w4 (set2 u4 u0.heap.size (.int .i64 P) (.int .i64 Q)) := set2_below hB4 g8
              unfold set2 at hBs
              generalize hs1 : (u4.setCell ⟨u0.heap.size, 0, none⟩ (.int .i64 P)).setCell ⟨u0.heap.size, 1, none⟩ (.int .i64 Q) = x1 at *
              obtain ⟨t0, t1, t5, t6, t7, t8⟩ := HH
              have hnn : u0.heap.size ≠ u3.heap.size := by omega
              have hn2 : u3.heap.size ≠ u0.heap.size := by omega
              have hs13 : (∀ i, i < 2 → ∃ v, x1.cell? ⟨u3.heap.size, i, none⟩ = some v) ∧ (∀ j, x1.frozen? ⟨u3.heap.size, j, none⟩ = false) := ⟨fun i hi => by obtain ⟨v, hv⟩ := h9_4.1 i hi; exact ⟨v, (t6 _ _ hn2).trans hv⟩, fun j => (World.frozen?_of_block (a := ⟨u3.heap.size, j, none⟩) (t7 _ hn2)).trans (h9_4.2 j)⟩
              obtain ⟨⟨av0, a0⟩, ⟨av1, a1⟩⟩ := And.intro (hs13.1 0 (by omega)) (hs13.1 1 (by omega))
              have af := hs13.2
              have k12 : u0.heap.size < x1.heap.size := by rw [t8]; exact q8_4
              have k13 : u3.heap.size < x1.heap.size := by rw [t8]; exact q9_4
              have T0 := Lib.hid t0
              have T1 := Lib.hid t1
              clear t0 t1 t5 t6 t7 t8 hs1 e0 e1 ef
              refine wpAnyH_ready (rs := [11]) (by kernel_rfl) (by simp) ?_
              refine AllReadyH.cons rfl (fun K hK => ?_) (AllReadyH.nil)
              go_simp
              go_wp2_with fail
              refine hK.out _ _ (HS'.out _ (set2_below hBs g9)) (fun hHeld => ?_)
              clear hK K
              try simp only [Act.put, List.setIfInBounds_toArray, List.set_cons_zero, List.set_cons_succ]
              refine wpAnyH_done (by kernel_rfl) ?_ _
              go_wp2_with fail
              go_meet
              exact ⟨rfl, R8.of hBs g8 k12 g9 k13 hnn T0.out T1.out hs13⟩
            · skip
              go_simp
              go_wp2_with fail
              refine hK.out _ _ (HS'.out _ ((hB2).alloc (hB2).size _)) (fun hHeld => ?_)
              clear hK K
              try simp only [Act.put, List.setIfInBounds_toArray, List.set_cons_zero, List.set_cons_succ]
              generalize hq3 : u2.alloc (.cells #[.int .i64 0, .int .i64 0] 32) = u3
              have hb3 : Below u2.heap.size u2 u3 := by rw [← hq3]; exact (Below.refl _ _).alloc (Nat.le_refl _) _
              have hB3 : Below w4.heap.size w4 u3 := (hB2).trans (hb3.mono (hB2).size)
              have h8_3 := has2_below (b := u0.heap.size) h8_2 hb3 q8_2
              have q8_3 : u0.heap.size < u3.heap.size := Nat.lt_of_lt_of_le q8_2 hb3.size
              have h9_3 : (∀ i, i < 2 → ∃ v, u3.cell? ⟨u2.heap.size, i, none⟩ = some v) ∧ (∀ j, u3.frozen? ⟨u2.heap.size, j, none⟩ = false) := by rw [← hq3]; exact new2_is u2 _ _ _
              have q9_3 : u2.heap.size < u3.heap.size := by rw [← hq3]; simp
              have g9 : w4.heap.size ≤ u2.heap.size := (hB2).size
              clear hq3
              refine wpAnyH_ready (rs := [7]) (by kernel_rfl) (by simp) ?_
              refine AllReadyH.cons rfl (fun K hK => ?_) (AllReadyH.nil)
              go_simp
              refine (HE1.out _).mono ?_
              rintro e u4 ⟨rfl, hb4⟩
              have hB4 : Below w4.heap.size w4 u4 := (hB3).trans (hb4.mono (hB3).size)
              have h8_4 := has2_below (b := u0.heap.size) h8_3 hb4 q8_3
              have q8_4 : u0.heap.size < u4.heap.size := Nat.lt_of_lt_of_le q8_3 hb4.size
              have h9_4 := has2_below (b := u2.heap.size) h9_3 hb4 q9_3
              have q9_4 : u2.heap.size < u4.heap.size := Nat.lt_of_lt_of_le q9_3 hb4.size
              go_wp2_with fail
              refine hK.out _ _ (HS'.out _ (hB4)) (fun hHeld => ?_)
              clear hK K
              try simp only [Act.put, List.setIfInBounds_toArray, List.set_cons_zero, List.set_cons_succ]
              obtain ⟨⟨ev0, e0⟩, ⟨ev1, e1⟩⟩ := And.intro (h8_4.1 0 (by omega)) (h8_4.1 1 (by omega))
              have ef := h8_4.2
              refine wpAnyH_ready (rs := [10]) (by kernel_rfl) (by simp) ?_
              refine AllReadyH.cons rfl (fun K hK => ?_) (AllReadyH.nil)
              go_simp
              go_wp2_with fail
              refine hK.out _ _ (HS'.out _ (set2_below hB4 g8)) (fun hHeld => ?_)
              clear hK K
              try simp only [Act.put, List.setIfInBounds_toArray, List.set_cons_zero, List.set_cons_succ]
              have HH := set2_is (X := u4) (b := u0.heap.size) (.int .i64 P) (.int .i64 Q) h8_4.1 h8_4.2
              unfold set2 at HH
              have hBs : Below w4.heap.size w4 (set2 u4 u0.heap.size (.int .i64 P) (.int .i64 Q)) := set2_below hB4 g8
              unfold set2 at hBs
              generalize hs1 : (u4.setCell ⟨u0.heap.size, 0, none⟩ (.int .i64 P)).setCell ⟨u0.heap.size, 1, none⟩ (.int .i64 Q) = x1 at *
              obtain ⟨t0, t1, t5, t6, t7, t8⟩ := HH
              have hnn : u0.heap.size ≠ u2.heap.size := by omega
              have hn2 : u2.heap.size ≠ u0.heap.size := by omega
              have hs13 : (∀ i, i < 2 → ∃ v, x1.cell? ⟨u2.heap.size, i, none⟩ = some v) ∧ (∀ j, x1.frozen? ⟨u2.heap.size, j, none⟩ = false) := ⟨fun i hi => by obtain ⟨v, hv⟩ := h9_4.1 i hi; exact ⟨v, (t6 _ _ hn2).trans hv⟩, fun j => (World.frozen?_of_block (a := ⟨u2.heap.size, j, none⟩) (t7 _ hn2)).trans (h9_4.2 j)⟩
              obtain ⟨⟨av0, a0⟩, ⟨av1, a1⟩⟩ := And.intro (hs13.1 0 (by omega)) (hs13.1 1 (by omega))
              have af := hs13.2
              have k12 : u0.heap.size < x1.heap.size := by rw [t8]; exact q8_4
              have k13 : u2.heap.size < x1.heap.size := by rw [t8]; exact q9_4
              have T0 := Lib.hid t0
              have T1 := Lib.hid t1
              clear t0 t1 t5 t6 t7 t8 hs1 e0 e1 ef
              refine wpAnyH_ready (rs := [11]) (by kernel_rfl) (by simp) ?_
              refine AllReadyH.cons rfl (fun K hK => ?_) (AllReadyH.nil)
              go_simp
              go_wp2_with fail
              refine hK.out _ _ (HS'.out _ (set2_below hBs g9)) (fun hHeld => ?_)
              clear hK K
              try simp only [Act.put, List.setIfInBounds_toArray, List.set_cons_zero, List.set_cons_succ]
              refine wpAnyH_done (by kernel_rfl) ?_ _
              go_wp2_with fail
              go_meet
              exact ⟨rfl, R8.of hBs g8 k12 g9 k13 hnn T0.out T1.out hs13⟩
          · skip
            go_simp
            go_wp2_with fail
            refine hK.out _ _ (HS'.out _ ((hB1).alloc (hB1).size _)) (fun hHeld => ?_)
            clear hK K
            try simp only [Act.put, List.setIfInBounds_toArray, List.set_cons_zero, List.set_cons_succ]
            generalize hq2 : u1.alloc (.cells #[.int .i64 0, .int .i64 0] 32) = u2
            have hb2 : Below u1.heap.size u1 u2 := by rw [← hq2]; exact (Below.refl _ _).alloc (Nat.le_refl _) _
            have hB2 : Below w4.heap.size w4 u2 := (hB1).trans (hb2.mono (hB1).size)
            have h8_2 := has2_below (b := u0.heap.size) h8_1 hb2 q8_1
            have q8_2 : u0.heap.size < u2.heap.size := Nat.lt_of_lt_of_le q8_1 hb2.size
            have h9_2 : (∀ i, i < 2 → ∃ v, u2.cell? ⟨u1.heap.size, i, none⟩ = some v) ∧ (∀ j, u2.frozen? ⟨u1.heap.size, j, none⟩ = false) := by rw [← hq2]; exact new2_is u1 _ _ _
            have q9_2 : u1.heap.size < u2.heap.size := by rw [← hq2]; simp
            have g9 : w4.heap.size ≤ u1.heap.size := (hB1).size
            clear hq2
            refine wpAnyH_ready (rs := [2]) (by kernel_rfl) (by simp) ?_
            refine AllReadyH.cons rfl (fun K hK => ?_) (AllReadyH.nil)
            go_simp
            refine (HL1.out _).mono ?_
            rintro e u3 ⟨rfl, hb3⟩
            have hB3 : Below w4.heap.size w4 u3 := (hB2).trans (hb3.mono (hB2).size)
            have h8_3 := has2_below (b := u0.heap.size) h8_2 hb3 q8_2
            have q8_3 : u0.heap.size < u3.heap.size := Nat.lt_of_lt_of_le q8_2 hb3.size
            have h9_3 := has2_below (b := u1.heap.size) h9_2 hb3 q9_2
            have q9_3 : u1.heap.size < u3.heap.size := Nat.lt_of_lt_of_le q9_2 hb3.size
            go_wp2_with fail
            refine hK.out _ _ (HS'.out _ (hB3)) (fun hHeld => ?_)
            clear hK K
            try simp only [Act.put, List.setIfInBounds_toArray, List.set_cons_zero, List.set_cons_succ]
            refine wpAnyH_ready (rs := [7]) (by kernel_rfl) (by simp) ?_
            refine AllReadyH.cons rfl (fun K hK => ?_) (AllReadyH.nil)
            go_simp
            refine (HE1.out _).mono ?_
            rintro e u4 ⟨rfl, hb4⟩
            have hB4 : Below w4.heap.size w4 u4 := (hB3).trans (hb4.mono (hB3).size)
            have h8_4 := has2_below (b := u0.heap.size) h8_3 hb4 q8_3
            have q8_4 : u0.heap.size < u4.heap.size := Nat.lt_of_lt_of_le q8_3 hb4.size
            have h9_4 := has2_below (b := u1.heap.size) h9_3 hb4 q9_3
            have q9_4 : u1.heap.size < u4.heap.size := Nat.lt_of_lt_of_le q9_3 hb4.size
            go_wp2_with fail
            refine hK.out _ _ (HS'.out _ (hB4)) (fun hHeld => ?_)
            clear hK K
            try simp only [Act.put, List.setIfInBounds_toArray, List.set_cons_zero, List.set_cons_succ]
            obtain ⟨⟨ev0, e0⟩, ⟨ev1, e1⟩⟩ := And.intro (h8_4.1 0 (by omega)) (h8_4.1 1 (by omega))
            have ef := h8_4.2
            refine wpAnyH_ready (rs := [10]) (by kernel_rfl) (by simp) ?_
            refine AllReadyH.cons rfl (fun K hK => ?_) (AllReadyH.nil)
            go_simp
            go_wp2_with fail
            refine hK.out _ _ (HS'.out _ (set2_below hB4 g8)) (fun hHeld => ?_)
            clear hK K
            try simp only [Act.put, List.setIfInBounds_toArray, List.set_cons_zero, List.set_cons_succ]
            have HH := set2_is (X := u4) (b := u0.heap.size) (.int .i64 P) (.int .i64 Q) h8_4.1 h8_4.2
            unfold set2 at HH
            have hBs : Below w4.heap.size w4 (set2 u4 u0.heap.size (.int .i64 P) (.int .i64 Q)) := set2_below hB4 g8
            unfold set2 at hBs
            generalize hs1 : (u4.setCell ⟨u0.heap.size, 0, none⟩ (.int .i64 P)).setCell ⟨u0.heap.size, 1, none⟩ (.int .i64 Q) = x1 at *
            obtain ⟨t0, t1, t5, t6, t7, t8⟩ := HH
            have hnn : u0.heap.size ≠ u1.heap.size := by omega
            have hn2 : u1.heap.size ≠ u0.heap.size := by omega
            have hs13 : (∀ i, i < 2 → ∃ v, x1.cell? ⟨u1.heap.size, i, none⟩ = some v) ∧ (∀ j, x1.frozen? ⟨u1.heap.size, j, none⟩ = false) := ⟨fun i hi => by obtain ⟨v, hv⟩ := h9_4.1 i hi; exact ⟨v, (t6 _ _ hn2).trans hv⟩, fun j => (World.frozen?_of_block (a := ⟨u1.heap.size, j, none⟩) (t7 _ hn2)).trans (h9_4.2 j)⟩
            obtain ⟨⟨av0, a0⟩, ⟨av1, a1⟩⟩ := And.intro (hs13.1 0 (by omega)) (hs13.1 1 (by omega))
            have af := hs13.2
            have k12 : u0.heap.size < x1.heap.size := by rw [t8]; exact q8_4
            have k13 : u1.heap.size < x1.heap.size := by rw [t8]; exact q9_4
            have T0 := Lib.hid t0
            have T1 := Lib.hid t1
            clear t0 t1 t5 t6 t7 t8 hs1 e0 e1 ef
            refine wpAnyH_ready (rs := [11]) (by kernel_rfl) (by simp) ?_
            refine AllReadyH.cons rfl (fun K hK => ?_) (AllReadyH.nil)
            go_simp
            go_wp2_with fail
            refine hK.out _ _ (HS'.out _ (set2_below hBs g9)) (fun hHeld => ?_)
            clear hK K
            try simp only [Act.put, List.setIfInBounds_toArray, List.set_cons_zero, List.set_cons_succ]
            refine wpAnyH_done (by kernel_rfl) ?_ _
            go_wp2_with fail
            go_meet
            exact ⟨rfl, R8.of hBs g8 k12 g9 k13 hnn T0.out T1.out hs13⟩
        · skip
          go_simp
          go_wp2_with fail
          refine hK.out _ _ (HS'.out _ ((hB0).alloc (hB0).size _)) (fun hHeld => ?_)
          clear hK K
          try simp only [Act.put, List.setIfInBounds_toArray, List.set_cons_zero, List.set_cons_succ]
          generalize hq1 : u0.alloc (.cells #[.int .i64 0, .int .i64 0] 32) = u1
          have hb1 : Below u0.heap.size u0 u1 := by rw [← hq1]; exact (Below.refl _ _).alloc (Nat.le_refl _) _
          have hB1 : Below w4.heap.size w4 u1 := (hB0).trans (hb1.mono (hB0).size)
          have h9_1 : (∀ i, i < 2 → ∃ v, u1.cell? ⟨u0.heap.size, i, none⟩ = some v) ∧ (∀ j, u1.frozen? ⟨u0.heap.size, j, none⟩ = false) := by rw [← hq1]; exact new2_is u0 _ _ _
          have q9_1 : u0.heap.size < u1.heap.size := by rw [← hq1]; simp
          have g9 : w4.heap.size ≤ u0.heap.size := (hB0).size
          clear hq1
          refine wpAnyH_ready (rs := [2, 8]) (by kernel_rfl) (by simp) ?_
          refine AllReadyH.cons rfl (fun K hK => ?_) (AllReadyH.cons rfl (fun K hK => ?_) (AllReadyH.nil))
          · skip
            go_simp
            refine (HL1.out _).mono ?_
            rintro e u2 ⟨rfl, hb2⟩
            have hB2 : Below w4.heap.size w4 u2 := (hB1).trans (hb2.mono (hB1).size)
            have h9_2 := has2_below (b := u0.heap.size) h9_1 hb2 q9_1
            have q9_2 : u0.heap.size < u2.heap.size := Nat.lt_of_lt_of_le q9_1 hb2.size
            go_wp2_with fail
            refine hK.out _ _ (HS'.out _ (hB2)) (fun hHeld => ?_)
            clear hK K
            try simp only [Act.put, List.setIfInBounds_toArray, List.set_cons_zero, List.set_cons_succ]
            refine wpAnyH_ready (rs := [7, 8]) (by kernel_rfl) (by simp) ?_
            refine AllReadyH.cons rfl (fun K hK => ?_) (AllReadyH.cons rfl (fun K hK => ?_) (AllReadyH.nil))
            · skip
              go_simp
              refine (HE1.out _).mono ?_
              rintro e u3 ⟨rfl, hb3⟩
              have hB3 : Below w4.heap.size w4 u3 := (hB2).trans (hb3.mono (hB2).size)
              have h9_3 := has2_below (b := u0.heap.size) h9_2 hb3 q9_2
              have q9_3 : u0.heap.size < u3.heap.size := Nat.lt_of_lt_of_le q9_2 hb3.size
              go_wp2_with fail
              refine hK.out _ _ (HS'.out _ (hB3)) (fun hHeld => ?_)
              clear hK K
              try simp only [Act.put, List.setIfInBounds_toArray, List.set_cons_zero, List.set_cons_succ]
              refine wpAnyH_ready (rs := [8]) (by kernel_rfl) (by simp) ?_
              refine AllReadyH.cons rfl (fun K hK => ?_) (AllReadyH.nil)
              go_simp
              go_wp2_with fail
              refine hK.out _ _ (HS'.out _ ((hB3).alloc (hB3).size _)) (fun hHeld => ?_)
              clear hK K
              try simp only [Act.put, List.setIfInBounds_toArray, List.set_cons_zero, List.set_cons_succ]
              generalize hq4 : u3.alloc (.cells #[.int .i64 0, .int .i64 0] 145) = u4
              have hb4 : Below u3.heap.size u3 u4 := by rw [← hq4]; exact (Below.refl _ _).alloc (Nat.le_refl _) _
              have hB4 : Below w4.heap.size w4 u4 := (hB3).trans (hb4.mono (hB3).size)
              have h9_4 := has2_below (b := u0.heap.size) h9_3 hb4 q9_3
              have q9_4 : u0.heap.size < u4.heap.size := Nat.lt_of_lt_of_le q9_3 hb4.size
              have h8_4 : (∀ i, i < 2 → ∃ v, u4.cell? ⟨u3.heap.size, i, none⟩ = some v) ∧ (∀ j, u4.frozen? ⟨u3.heap.size, j, none⟩ = false) := by rw [← hq4]; exact new2_is u3 _ _ _
              have q8_4 : u3.heap.size < u4.heap.size := by rw [← hq4]; simp
              have g8 : w4.heap.size ≤ u3.heap.size := (hB3).size
              clear hq4
              obtain ⟨⟨ev0, e0⟩, ⟨ev1, e1⟩⟩ := And.intro (h8_4.1 0 (by omega)) (h8_4.1 1 (by omega))
              have ef := h8_4.2
              refine wpAnyH_ready (rs := [10]) (by kernel_rfl) (by simp) ?_
              refine AllReadyH.cons rfl (fun K hK => ?_) (AllReadyH.nil)
              go_simp
              go_wp2_with fail
              refine hK.out _ _ (HS'.out _ (set2_below hB4 g8)) (fun hHeld => ?_)
              clear hK K
              try simp only [Act.put, List.setIfInBounds_toArray, List.set_cons_zero, List.set_cons_succ]
              have HH := set2_is (X := u4) (b := u3.heap.size) (.int .i64 P) (.int .i64 Q) h8_4.1 h8_4.2
              unfold set2 at HH
              have hBs : Below w4.heap.size w4 (set2 u4 u3.heap.size (.int .i64 P) (.int .i64 Q)) := set2_below hB4 g8
              unfold set2 at hBs
              generalize hs1 : (u4.setCell ⟨u3.heap.size, 0, none⟩ (.int .i64 P)).setCell ⟨u3.heap.size, 1, none⟩ (.int .i64 Q) = x1 at *
              obtain ⟨t0, t1, t5, t6, t7, t8⟩ := HH
              have hnn : u3.heap.size ≠ u0.heap.size := by omega
              have hn2 : u0.heap.size ≠ u3.heap.size := by omega
              have hs13 : (∀ i, i < 2 → ∃ v, x1.cell? ⟨u0.heap.size, i, none⟩ = some v) ∧ (∀ j, x1.frozen? ⟨u0.heap.size, j, none⟩ = false) := ⟨fun i hi => by obtain ⟨v, hv⟩ := h9_4.1 i hi; exact ⟨v, (t6 _ _ hn2).trans hv⟩, fun j => (World.frozen?_of_block (a := ⟨u0.heap.size, j, none⟩) (t7 _ hn2)).trans (h9_4.2 j)⟩
              obtain ⟨⟨av0, a0⟩, ⟨av1, a1⟩⟩ := And.intro (hs13.1 0 (by omega)) (hs13.1 1 (by omega))
              have af := hs13.2
              have k12 : u3.heap.size < x1.heap.size := by rw [t8]; exact q8_4
              have k13 : u0.heap.size < x1.heap.size := by rw [t8]; exact q9_4
              have T0 := Lib.hid t0
              have T1 := Lib.hid t1
              clear t0 t1 t5 t6 t7 t8 hs1 e0 e1 ef
              refine wpAnyH_ready (rs := [11]) (by kernel_rfl) (by simp) ?_
              refine AllReadyH.cons rfl (fun K hK => ?_) (AllReadyH.nil)
              go_simp
              go_wp2_with fail
              refine hK.out _ _ (HS'.out _ (set2_below hBs g9)) (fun hHeld => ?_)
              clear hK K
              try simp only [Act.put, List.setIfInBounds_toArray, List.set_cons_zero, List.set_cons_succ]
              refine wpAnyH_done (by kernel_rfl) ?_ _
              go_wp2_with fail
              go_meet
              exact ⟨rfl, R8.of hBs g8 k12 g9 k13 hnn T0.out T1.out hs13⟩
            · skip
              go_simp
              go_wp2_with fail
              refine hK.out _ _ (HS'.out _ ((hB2).alloc (hB2).size _)) (fun hHeld => ?_)
              clear hK K
              try simp only [Act.put, List.setIfInBounds_toArray, List.set_cons_zero, List.set_cons_succ]
              generalize hq3 : u2.alloc (.cells #[.int .i64 0, .int .i64 0] 145) = u3
              have hb3 : Below u2.heap.size u2 u3 := by rw [← hq3]; exact (Below.refl _ _).alloc (Nat.le_refl _) _
              have hB3 : Below w4.heap.size w4 u3 := (hB2).trans (hb3.mono (hB2).size)
              have h9_3 := has2_below (b := u0.heap.size) h9_2 hb3 q9_2
              have q9_3 : u0.heap.size < u3.heap.size := Nat.lt_of_lt_of_le q9_2 hb3.size
              have h8_3 : (∀ i, i < 2 → ∃ v, u3.cell? ⟨u2.heap.size, i, none⟩ = some v) ∧ (∀ j, u3.frozen? ⟨u2.heap.size, j, none⟩ = false) := by rw [← hq3]; exact new2_is u2 _ _ _
              have q8_3 : u2.heap.size < u3.heap.size := by rw [← hq3]; simp
              have g8 : w4.heap.size ≤ u2.heap.size := (hB2).size
              clear hq3
              refine wpAnyH_ready (rs := [7]) (by kernel_rfl) (by simp) ?_
              refine AllReadyH.cons rfl (fun K hK => ?_) (AllReadyH.nil)
              go_simp
              refine (HE1.out _).mono ?_
              rintro e u4 ⟨rfl, hb4⟩
              have hB4 : Below w4.heap.size w4 u4 := (hB3).trans (hb4.mono (hB3).size)
              have h9_4 := has2_below (b := u0.heap.size) h9_3 hb4 q9_3
              have q9_4 : u0.heap.size < u4.heap.size := Nat.lt_of_lt_of_le q9_3 hb4.size
              have h8_4 := has2_below (b := u2.heap.size) h8_3 hb4 q8_3
              have q8_4 : u2.heap.size < u4.heap.size := Nat.lt_of_lt_of_le q8_3 hb4.size
              go_wp2_with fail
              refine hK.out _ _ (HS'.out _ (hB4)) (fun hHeld => ?_)
              clear hK K
              try simp only [Act.put, List.setIfInBounds_toArray, List.set_cons_zero, List.set_cons_succ]
              obtain ⟨⟨ev0, e0⟩, ⟨ev1, e1⟩⟩ := And.intro (h8_4.1 0 (by omega)) (h8_4.1 1 (by omega))
              have ef := h8_4.2
              refine wpAnyH_ready (rs := [10]) (by kernel_rfl) (by simp) ?_
              refine AllReadyH.cons rfl (fun K hK => ?_) (AllReadyH.nil)
              go_simp
              go_wp2_with fail
              refine hK.out _ _ (HS'.out _ (set2_below hB4 g8)) (fun hHeld => ?_)
              clear hK K
              try simp only [Act.put, List.setIfInBounds_toArray, List.set_cons_zero, List.set_cons_succ]
              have HH := set2_is (X := u4) (b := u2.heap.size) (.int .i64 P) (.int .i64 Q) h8_4.1 h8_4.2
              unfold set2 at HH
              have hBs : Below w4.heap.size w4 (set2 u4 u2.heap.size (.int .i64 P) (.int .i64 Q)) := set2_below hB4 g8
              unfold set2 at hBs
              generalize hs1 : (u4.setCell ⟨u2.heap.size, 0, none⟩ (.int .i64 P)).setCell ⟨u2.heap.size, 1, none⟩ (.int .i64 Q) = x1 at *
              obtain ⟨t0, t1, t5, t6, t7, t8⟩ := HH
              have hnn : u2.heap.size ≠ u0.heap.size := by omega
              have hn2 : u0.heap.size ≠ u2.heap.size := by omega
              have hs13 : (∀ i, i < 2 → ∃ v, x1.cell? ⟨u0.heap.size, i, none⟩ = some v) ∧ (∀ j, x1.frozen? ⟨u0.heap.size, j, none⟩ = false) := ⟨fun i hi => by obtain ⟨v, hv⟩ := h9_4.1 i hi; exact ⟨v, (t6 _ _ hn2).trans hv⟩, fun j => (World.frozen?_of_block (a := ⟨u0.heap.size, j, none⟩) (t7 _ hn2)).trans (h9_4.2 j)⟩
              obtain ⟨⟨av0, a0⟩, ⟨av1, a1⟩⟩ := And.intro (hs13.1 0 (by omega)) (hs13.1 1 (by omega))
              have af := hs13.2
              have k12 : u2.heap.size < x1.heap.size := by rw [t8]; exact q8_4
              have k13 : u0.heap.size < x1.heap.size := by rw [t8]; exact q9_4
              have T0 := Lib.hid t0
              have T1 := Lib.hid t1
              clear t0 t1 t5 t6 t7 t8 hs1 e0 e1 ef
              refine wpAnyH_ready (rs := [11]) (by kernel_rfl) (by simp) ?_
              refine AllReadyH.cons rfl (fun K hK => ?_) (AllReadyH.nil)
              go_simp
              go_wp2_with fail
              refine hK.out _ _ (HS'.out _ (set2_below hBs g9)) (fun hHeld => ?_)
              clear hK K
              try simp only [Act.put, List.setIfInBounds_toArray, List.set_cons_zero, List.set_cons_succ]
              refine wpAnyH_done (by kernel_rfl) ?_ _
              go_wp2_with fail
              go_meet
              exact ⟨rfl, R8.of hBs g8 k12 g9 k13 hnn T0.out T1.out hs13⟩
          · skip
            go_simp
            go_wp2_with fail
            refine hK.out _ _ (HS'.out _ ((hB1).alloc (hB1).size _)) (fun hHeld => ?_)
            clear hK K
            try simp only [Act.put, List.setIfInBounds_toArray, List.set_cons_zero, List.set_cons_succ]
            generalize hq2 : u1.alloc (.cells #[.int .i64 0, .int .i64 0] 145) = u2
            have hb2 : Below u1.heap.size u1 u2 := by rw [← hq2]; exact (Below.refl _ _).alloc (Nat.le_refl _) _
            have hB2 : Below w4.heap.size w4 u2 := (hB1).trans (hb2.mono (hB1).size)
            have h9_2 := has2_below (b := u0.heap.size) h9_1 hb2 q9_1
            have q9_2 : u0.heap.size < u2.heap.size := Nat.lt_of_lt_of_le q9_1 hb2.size
            have h8_2 : (∀ i, i < 2 → ∃ v, u2.cell? ⟨u1.heap.size, i, none⟩ = some v) ∧ (∀ j, u2.frozen? ⟨u1.heap.size, j, none⟩ = false) := by rw [← hq2]; exact new2_is u1 _ _ _
            have q8_2 : u1.heap.size < u2.heap.size := by rw [← hq2]; simp
            have g8 : w4.heap.size ≤ u1.heap.size := (hB1).size
            clear hq2
            refine wpAnyH_ready (rs := [2]) (by kernel_rfl) (by simp) ?_
            refine AllReadyH.cons rfl (fun K hK => ?_) (AllReadyH.nil)
            go_simp
            refine (HL1.out _).mono ?_
            rintro e u3 ⟨rfl, hb3⟩
            have hB3 : Below w4.heap.size w4 u3 := (hB2).trans (hb3.mono (hB2).size)
            have h9_3 := has2_below (b := u0.heap.size) h9_2 hb3 q9_2
            have q9_3 : u0.heap.size < u3.heap.size := Nat.lt_of_lt_of_le q9_2 hb3.size
            have h8_3 := has2_below (b := u1.heap.size) h8_2 hb3 q8_2
            have q8_3 : u1.heap.size < u3.heap.size := Nat.lt_of_lt_of_le q8_2 hb3.size
            go_wp2_with fail
            refine hK.out _ _ (HS'.out _ (hB3)) (fun hHeld => ?_)
            clear hK K
            try simp only [Act.put, List.setIfInBounds_toArray, List.set_cons_zero, List.set_cons_succ]
            refine wpAnyH_ready (rs := [7]) (by kernel_rfl) (by simp) ?_
            refine AllReadyH.cons rfl (fun K hK => ?_) (AllReadyH.nil)
            go_simp
            refine (HE1.out _).mono ?_
            rintro e u4 ⟨rfl, hb4⟩
            have hB4 : Below w4.heap.size w4 u4 := (hB3).trans (hb4.mono (hB3).size)
            have h9_4 := has2_below (b := u0.heap.size) h9_3 hb4 q9_3
            have q9_4 : u0.heap.size < u4.heap.size := Nat.lt_of_lt_of_le q9_3 hb4.size
            have h8_4 := has2_below (b := u1.heap.size) h8_3 hb4 q8_3
            have q8_4 : u1.heap.size < u4.heap.size := Nat.lt_of_lt_of_le q8_3 hb4.size
            go_wp2_with fail
            refine hK.out _ _ (HS'.out _ (hB4)) (fun hHeld => ?_)
            clear hK K
            try simp only [Act.put, List.setIfInBounds_toArray, List.set_cons_zero, List.set_cons_succ]
            obtain ⟨⟨ev0, e0⟩, ⟨ev1, e1⟩⟩ := And.intro (h8_4.1 0 (by omega)) (h8_4.1 1 (by omega))
            have ef := h8_4.2
            refine wpAnyH_ready (rs := [10]) (by kernel_rfl) (by simp) ?_
            refine AllReadyH.cons rfl (fun K hK => ?_) (AllReadyH.nil)
            go_simp
            go_wp2_with fail
            refine hK.out _ _ (HS'.out _ (set2_below hB4 g8)) (fun hHeld => ?_)
            clear hK K
            try simp only [Act.put, List.setIfInBounds_toArray, List.set_cons_zero, List.set_cons_succ]
            have HH := set2_is (X := u4) (b := u1.heap.size) (.int .i64 P) (.int .i64 Q) h8_4.1 h8_4.2
            unfold set2 at HH
            have hBs : Below w4.heap.size w4 (set2 u4 u1.heap.size (.int .i64 P) (.int .i64 Q)) := set2_below hB4 g8
            unfold set2 at hBs
            generalize hs1 : (u4.setCell ⟨u1.heap.size, 0, none⟩ (.int .i64 P)).setCell ⟨u1.heap.size, 1, none⟩ (.int .i64 Q) = x1 at *
            obtain ⟨t0, t1, t5, t6, t7, t8⟩ := HH
            have hnn : u1.heap.size ≠ u0.heap.size := by omega
            have hn2 : u0.heap.size ≠ u1.heap.size := by omega
            have hs13 : (∀ i, i < 2 → ∃ v, x1.cell? ⟨u0.heap.size, i, none⟩ = some v) ∧ (∀ j, x1.frozen? ⟨u0.heap.size, j, none⟩ = false) := ⟨fun i hi => by obtain ⟨v, hv⟩ := h9_4.1 i hi; exact ⟨v, (t6 _ _ hn2).trans hv⟩, fun j => (World.frozen?_of_block (a := ⟨u0.heap.size, j, none⟩) (t7 _ hn2)).trans (h9_4.2 j)⟩
            obtain ⟨⟨av0, a0⟩, ⟨av1, a1⟩⟩ := And.intro (hs13.1 0 (by omega)) (hs13.1 1 (by omega))
            have af := hs13.2
            have k12 : u1.heap.size < x1.heap.size := by rw [t8]; exact q8_4
            have k13 : u0.heap.size < x1.heap.size := by rw [t8]; exact q9_4
            have T0 := Lib.hid t0
            have T1 := Lib.hid t1
            clear t0 t1 t5 t6 t7 t8 hs1 e0 e1 ef
            refine wpAnyH_ready (rs := [11]) (by kernel_rfl) (by simp) ?_
            refine AllReadyH.cons rfl (fun K hK => ?_) (AllReadyH.nil)
            go_simp
            go_wp2_with fail
            refine hK.out _ _ (HS'.out _ (set2_below hBs g9)) (fun hHeld => ?_)
            clear hK K
            try simp only [Act.put, List.setIfInBounds_toArray, List.set_cons_zero, List.set_cons_succ]
            refine wpAnyH_done (by kernel_rfl) ?_ _
            go_wp2_with fail
            go_meet
            exact ⟨rfl, R8.of hBs g8 k12 g9 k13 hnn T0.out T1.out hs13⟩
      case rest =>
        obtain ⟨rfl, b12, b13, rfl, rfl, g12, q12, g13, q13, t0, t1, t2, t3, hB5⟩ := hcut
        have hBc : Below w.heap.size w wc := hB4.trans (hB5.mono hB4.size)
        clear hB5 hB4 e0 e1 e2 e3 d0 d1 d2 d3 g12 g13 HL1 HE1 l11 mq llt plt
        by_cases hlo : 1000 * X ≤ V
        · have hA1 := Lib.hid (fun w => allows_is P Q X p V true w bb.1 bb.2 (by omega) ss.2 (by omega) p1 x0.1 x0.2 hVV (by show _ = _; simpa using hlo))
          have HN : Hid (keptR p f (T.drop (k + 1)) (L.drop (k + 1)) (if 1000 * Y ≤ V then x else 1) = E) := by have := HST.out; rw [if_pos hlo] at this; exact this.symm
          clear HST hlo
          go_wp2_with fail
          refine (hA1.out _).mono ?_
          rintro e w5 ⟨rfl, hb5⟩
          replace t0 := (hb5.cell (p := ⟨b12, 0, none⟩) q12).trans t0
          replace t1 := (hb5.cell (p := ⟨b12, 1, none⟩) q12).trans t1
          replace t2 := (hb5.cell (p := ⟨b13, 0, none⟩) q13).trans t2
          replace t3 := (hb5.cell (p := ⟨b13, 1, none⟩) q13).trans t3
          have hB5 : Below w.heap.size w w5 := hBc.trans (hb5.mono hBc.size)
          clear hb5 hBc q12 q13
          by_cases hhi : 1000 * Y ≤ V
          · have hA2 := Lib.hid (fun w => allows_is P Q Y p V true w bb.1 bb.2 (by omega) ss.2 (by omega) p1 y0.1 y0.2 hVV (by show _ = _; simpa using hhi))
            have HN2 : Hid (keptR p f (T.drop (k + 1)) (L.drop (k + 1)) x = E) := by have := HN.out; rw [if_pos hhi] at this; exact this
            clear HN hhi
            go_wp2_with fail
            refine (hA2.out _).mono ?_
            rintro e w6 ⟨rfl, hb6⟩
            have hB6 : Below w.heap.size w w6 := hB5.trans (hb6.mono hB5.size)
            clear hb6 hB5
            go_wp2
            go_roundw
            case rel => exact ⟨k + 1, x, by omega, by go_num, rfl, HN2, hB6⟩
            case measure => simp [intOf]; omega
          · have hA2 := Lib.hid (fun w => allows_is P Q Y p V false w bb.1 bb.2 (by omega) ss.2 (by omega) p1 y0.1 y0.2 hVV (by show _ = _; simpa using hhi))
            have HN2 : Hid (keptR p f (T.drop (k + 1)) (L.drop (k + 1)) 1 = E) := by have := HN.out; rw [if_neg hhi] at this; exact this
            clear HN hhi
            go_wp2_with fail
            refine (hA2.out _).mono ?_
            rintro e w6 ⟨rfl, hb6⟩
            have hB6 : Below w.heap.size w w6 := hB5.trans (hb6.mono hB5.size)
            clear hb6 hB5
            go_wp2
            go_roundw
            case rel => exact ⟨k + 1, 1, by omega, by go_num, rfl, HN2, hB6⟩
            case measure => simp [intOf]; omega
        · have hA1 := Lib.hid (fun w => allows_is P Q X p V false w bb.1 bb.2 (by omega) ss.2 (by omega) p1 x0.1 x0.2 hVV (by show _ = _; simpa using hlo))
          have HN : Hid (E = 0) := by have := HST.out; rw [if_neg hlo] at this; exact this
          clear HST hlo
          go_wp2_with fail
          refine (hA1.out _).mono ?_
          rintro e w5 ⟨rfl, hb5⟩
          have hB5 : Below w.heap.size w w5 := hBc.trans (hb5.mono hBc.size)
          clear hb5 hBc
          go_wp2
          go_ret
          exact ⟨ret_int HN.out.symm, hB5⟩
    · have hkl2 : ¬ (k : Int) < T.length := by omega
      have HN : Hid (E = x) := by show _ = _; rw [← hx.out, keptR_end (by omega)]
      go_wp2
      go_ret
      exact ⟨ret_int HN.out.symm, hB⟩
end Go.Proofs.Ytchfhhmmjioajaa

/- Whether loads keep the limits at a pressure: tissue.KeptAt, and the specification's. -/
namespace Go.Proofs.Ytchfhhmmjioajaa
open Go.ChangeShapes Go.WideShapes Go.ChangeAt Go.RowKit
set_option linter.unusedVariables false
set_option linter.unusedSimpArgs false
attribute [local go_sem ↓] Go.wp_at_zero Go.wp_at_succ
/-- The first error of a table with loads, a pressure and a factor. -/
def keptE (T : List Cm) (L : List Ld) (p f : Int) : Int := firE [loadsE T L, rngE p 400 31100, rngE f 0 1000]
set_option maxRecDepth 100000 in
set_option maxHeartbeats 1000000 in
theorem KeptAt_bad (T : List Cm) (L : List Ld) (A B : Option Addr) (cap cap' : Nat) (p f E : Int) (w : World) (hl : T.length ≤ 1000000) (hl' : L.length ≤ 1000000) (hE : Hid (keptE T L p f = E)) (hz : (E != 0) = true) (HT : Hid (SlCm w A T)) (HL : Hid (SlLd w B L)) :
    Calls Try.prog 47 #[.slice A T.length cap, .slice B L.length cap', .agg #[.int .i64 p, .int .i64 f]] w fun e w' => e = .returned (.tuple #[.int .i64 0, .int .i64 E]) ∧ Below w.heap.size w w' := by
  obtain ⟨r, hr⟩ : ∃ z, Hid (loadsE T L = z) := ⟨_, rfl⟩
  have hF : Hid (firE [r, rngE p 400 31100, rngE f 0 1000] = E) := by show _ = _; rw [← hr.out]; exact hE.out
  clear hE
  go_enter Try.func47, Try.ntmps47
  go_upto_region 1 with (fail)
  refine wp_region_held_drew (S := (fun w' => w'.cell? ⟨w.heap.size, 0, none⟩ = some (.int .i64 p) ∧ w'.cell? ⟨w.heap.size, 1, none⟩ = some (.int .i64 f))) (by kernel_rfl) (by simp [go_sem, World.cell?_alloc_past, *]) (fun hHeld => ?_)
  refine wpAnyH_take (i := 0) (oi := ⟨some 9, _, _, _, _, _⟩) (v := ?_) rfl (by kernel_rfl) (by kernel_rfl) (by kernel_rfl) (fun _ _ _ h => h) (Or.inl ⟨by kernel_rfl, ?_⟩) (by assumption) ?_
  rotate_left
  · (intro w hSw; (try dsimp only at hSw); go_simp; all_goals with_reducible rfl)
  try simp only [Act.put, List.setIfInBounds_toArray, List.set_cons_zero, List.set_cons_succ]
  refine wpAnyH_take (i := 1) (oi := ⟨some 10, _, _, _, _, _⟩) (v := ?_) rfl (by kernel_rfl) (by kernel_rfl) (by kernel_rfl) (fun _ _ _ h => h) (Or.inl ⟨by kernel_rfl, ?_⟩) (by assumption) ?_
  rotate_left
  · (intro w hSw; (try dsimp only at hSw); go_simp; all_goals with_reducible rfl)
  try simp only [Act.put, List.setIfInBounds_toArray, List.set_cons_zero, List.set_cons_succ]
  refine wpAnyH_take (i := 3) (oi := ⟨some 12, _, _, _, _, _⟩) (v := ?_) rfl (by kernel_rfl) (by kernel_rfl) (by kernel_rfl) (fun _ _ _ h => h) (Or.inl ⟨by kernel_rfl, ?_⟩) (by assumption) ?_
  rotate_left
  · (intro w hSw; (try dsimp only at hSw); go_simp; all_goals with_reducible rfl)
  try simp only [Act.put, List.setIfInBounds_toArray, List.set_cons_zero, List.set_cons_succ]
  refine wpAnyH_take (i := 4) (oi := ⟨some 13, _, _, _, _, _⟩) (v := ?_) rfl (by kernel_rfl) (by kernel_rfl) (by kernel_rfl) (fun _ _ _ h => h) (Or.inl ⟨by kernel_rfl, ?_⟩) (by assumption) ?_
  rotate_left
  · (intro w hSw; (try dsimp only at hSw); go_simp; all_goals with_reducible rfl)
  try simp only [Act.put, List.setIfInBounds_toArray, List.set_cons_zero, List.set_cons_succ]
  refine wpAnyH_take (i := 6) (oi := ⟨some 15, _, _, _, _, _⟩) (v := ?_) rfl (by kernel_rfl) (by kernel_rfl) (by kernel_rfl) (fun _ _ _ h => h) (Or.inl ⟨by kernel_rfl, ?_⟩) (by assumption) ?_
  rotate_left
  · (intro w hSw; (try dsimp only at hSw); go_simp; all_goals with_reducible rfl)
  try simp only [Act.put, List.setIfInBounds_toArray, List.set_cons_zero, List.set_cons_succ]
  refine wpAnyH_take (i := 7) (oi := ⟨some 16, _, _, _, _, _⟩) (v := ?_) rfl (by kernel_rfl) (by kernel_rfl) (by kernel_rfl) (fun _ _ _ h => h) (Or.inl ⟨by kernel_rfl, ?_⟩) (by assumption) ?_
  rotate_left
  · (intro w hSw; (try dsimp only at hSw); go_simp; all_goals with_reducible rfl)
  try simp only [Act.put, List.setIfInBounds_toArray, List.set_cons_zero, List.set_cons_succ]
  refine wpAnyH_ready (rs := [2]) (by kernel_rfl) (by simp) ?_
  refine AllReadyH.cons rfl (fun K hK => ?_) AllReadyH.nil
  go_simp
  refine (CheckLoads_is T L A B cap cap' r _ hl hl' hr (HT.out.below (by exact (by (repeat (first | (with_reducible refine Below.drew ?_) | (with_reducible refine below_drewN ?_ _) | (with_reducible refine Below.alloc ?_ (by first | omega | (simp; done) | (simp; omega) | (simp at *; omega)) _) | (with_reducible refine Below.setCell ?_ (by first | omega | (simp; done) | (simp; omega) | (simp at *; omega)) _) | (with_reducible exact Below.refl _ _) | (with_reducible assumption) | (with_reducible refine Below.trans ?_ (Below.mono (by assumption) (by first | omega | (simp; done) | (simp; omega) | (simp at *; omega))))))))) (HL.out.below (by exact (by (repeat (first | (with_reducible refine Below.drew ?_) | (with_reducible refine below_drewN ?_ _) | (with_reducible refine Below.alloc ?_ (by first | omega | (simp; done) | (simp; omega) | (simp at *; omega)) _) | (with_reducible refine Below.setCell ?_ (by first | omega | (simp; done) | (simp; omega) | (simp at *; omega)) _) | (with_reducible exact Below.refl _ _) | (with_reducible assumption) | (with_reducible refine Below.trans ?_ (Below.mono (by assumption) (by first | omega | (simp; done) | (simp; omega) | (simp at *; omega)))))))))).mono ?_
  rintro e w1 ⟨rfl, hb1⟩
  have hs1 := hb1.size
  try simp at hs1
  have c0 : w1.cell? ⟨w.heap.size, 0, none⟩ = some (.int .i64 p) := by rw [(bcell hb1).1 _ _ (by first | (simp; done) | (simp; omega) | omega)]; simp [go_sem, World.cell?_alloc_past]
  have c1 : w1.cell? ⟨w.heap.size, 1, none⟩ = some (.int .i64 f) := by rw [(bcell hb1).1 _ _ (by first | (simp; done) | (simp; omega) | omega)]; simp [go_sem, World.cell?_alloc_past]
  have hB1 : Below w.heap.size w w1 := (by (repeat (first | (with_reducible refine Below.drew ?_) | (with_reducible refine below_drewN ?_ _) | (with_reducible refine Below.alloc ?_ (by first | omega | (simp; done) | (simp; omega) | (simp at *; omega)) _) | (with_reducible refine Below.setCell ?_ (by first | omega | (simp; done) | (simp; omega) | (simp at *; omega)) _) | (with_reducible exact Below.refl _ _) | (with_reducible assumption) | (with_reducible refine Below.trans ?_ (Below.mono (by assumption) (by first | omega | (simp; done) | (simp; omega) | (simp at *; omega)))))))
  have o1 : w.heap.size < w1.heap.size := by omega
  have o2 : w1.heap.size ≠ w.heap.size := by omega
  clear hb1
  go_wp2_with fail
  refine hK.out _ _ (by simp [go_sem, World.cell?_alloc_past, *]) (fun hHeld => ?_)
  clear hK K
  try simp only [Act.put, List.setIfInBounds_toArray, List.set_cons_zero, List.set_cons_succ]
  refine wpAnyH_ready (rs := [5]) (by kernel_rfl) (by simp) ?_
  refine AllReadyH.cons rfl (fun K hK => ?_) AllReadyH.nil
  go_simp
  refine (tcheckPressure_any _ _).mono ?_
  rintro e w2 ⟨rfl, rfl⟩
  go_wp2_with fail
  refine hK.out _ _ (by simp [go_sem, World.cell?_alloc_past, *]) (fun hHeld => ?_)
  clear hK K
  try simp only [Act.put, List.setIfInBounds_toArray, List.set_cons_zero, List.set_cons_succ]
  refine wpAnyH_ready (rs := [8]) (by kernel_rfl) (by simp) ?_
  refine AllReadyH.cons rfl (fun K hK => ?_) AllReadyH.nil
  go_simp
  refine (tcheckFactor_any _ _).mono ?_
  rintro e w2 ⟨rfl, rfl⟩
  go_wp2_with fail
  refine hK.out _ _ (by simp [go_sem, World.cell?_alloc_past, *]) (fun hHeld => ?_)
  clear hK K
  try simp only [Act.put, List.setIfInBounds_toArray, List.set_cons_zero, List.set_cons_succ]
  refine wpAnyH_ready (rs := [9]) (by kernel_rfl) (by simp) ?_
  refine AllReadyH.cons rfl (fun K hK => ?_) AllReadyH.nil
  go_simp
  go_wp2_with fail
  refine hK.out _ _ (by simp [go_sem, World.cell?_alloc_past, *]) (fun hHeld => ?_)
  clear hK K
  try simp only [Act.put, List.setIfInBounds_toArray, List.set_cons_zero, List.set_cons_succ]
  refine wpAnyH_ready (rs := [10]) (by kernel_rfl) (by simp) ?_
  refine AllReadyH.cons rfl (fun K hK => ?_) AllReadyH.nil
  go_simp
  refine (cF3 _ _ _ E _ _ hF (by simp [go_sem]) (by simp [go_sem]) (by simp [go_sem])).mono ?_
  rintro e w2 ⟨rfl, rfl⟩
  go_wp2_with fail
  refine hK.out _ _ (by simp [go_sem, World.cell?_alloc_past, *]) (fun hHeld => ?_)
  clear hK K
  try simp only [Act.put, List.setIfInBounds_toArray, List.set_cons_zero, List.set_cons_succ]
  refine wpAnyH_take (i := 11) (oi := ⟨some 8, _, _, _, _, _⟩) (v := ?_) rfl (by kernel_rfl) (by kernel_rfl) (by kernel_rfl) (fun _ _ _ h => h) (Or.inl ⟨by kernel_rfl, ?_⟩) (by assumption) ?_
  rotate_left
  · (intro w hSw; (try dsimp only at hSw); go_simp; all_goals with_reducible rfl)
  try simp only [Act.put, List.setIfInBounds_toArray, List.set_cons_zero, List.set_cons_succ]
  refine wpAnyH_done (by kernel_rfl) ?_ _
  go_wp2
  go_ret2
  exact ⟨rfl, (by (repeat (first | (with_reducible refine Below.drew ?_) | (with_reducible refine below_drewN ?_ _) | (with_reducible refine Below.alloc ?_ (by first | omega | (simp; done) | (simp; omega) | (simp at *; omega)) _) | (with_reducible refine Below.setCell ?_ (by first | omega | (simp; done) | (simp; omega) | (simp at *; omega)) _) | (with_reducible exact Below.refl _ _) | (with_reducible assumption) | (with_reducible refine Below.trans ?_ (Below.mono (by assumption) (by first | omega | (simp; done) | (simp; omega) | (simp at *; omega)))))))⟩
set_option maxRecDepth 100000 in
set_option maxHeartbeats 1000000 in
theorem KeptAt_good (T : List Cm) (L : List Ld) (A B : Option Addr) (cap cap' : Nat) (p f K : Int) (w : World) (hl : T.length ≤ 1000000) (hl' : L.length ≤ 1000000) (hE : Hid (keptE T L p f = 0)) (HFit : Hid (Fit T L)) (p0 : 400 ≤ p) (p1 : p ≤ 31100) (f0 : 0 ≤ f) (f1 : f ≤ 1000) (hK : Hid (keptR p f T L 2 = K)) (HT : Hid (SlCm w A T)) (HL : Hid (SlLd w B L)) :
    Calls Try.prog 47 #[.slice A T.length cap, .slice B L.length cap', .agg #[.int .i64 p, .int .i64 f]] w fun e w' => e = .returned (.tuple #[.int .i64 K, .int .i64 0]) ∧ Below w.heap.size w w' := by
  obtain ⟨r, hr⟩ : ∃ z, Hid (loadsE T L = z) := ⟨_, rfl⟩
  have hF : Hid (firE [r, rngE p 400 31100, rngE f 0 1000] = 0) := by show _ = _; rw [← hr.out]; exact hE.out
  have HKK := hK
  clear hE hK
  go_enter Try.func47, Try.ntmps47
  go_upto_region 1 with (fail)
  refine wp_region_held_drew (S := (fun w' => w'.cell? ⟨w.heap.size, 0, none⟩ = some (.int .i64 p) ∧ w'.cell? ⟨w.heap.size, 1, none⟩ = some (.int .i64 f))) (by kernel_rfl) (by simp [go_sem, World.cell?_alloc_past, *]) (fun hHeld => ?_)
  refine wpAnyH_take (i := 0) (oi := ⟨some 9, _, _, _, _, _⟩) (v := ?_) rfl (by kernel_rfl) (by kernel_rfl) (by kernel_rfl) (fun _ _ _ h => h) (Or.inl ⟨by kernel_rfl, ?_⟩) (by assumption) ?_
  rotate_left
  · (intro w hSw; (try dsimp only at hSw); go_simp; all_goals with_reducible rfl)
  try simp only [Act.put, List.setIfInBounds_toArray, List.set_cons_zero, List.set_cons_succ]
  refine wpAnyH_take (i := 1) (oi := ⟨some 10, _, _, _, _, _⟩) (v := ?_) rfl (by kernel_rfl) (by kernel_rfl) (by kernel_rfl) (fun _ _ _ h => h) (Or.inl ⟨by kernel_rfl, ?_⟩) (by assumption) ?_
  rotate_left
  · (intro w hSw; (try dsimp only at hSw); go_simp; all_goals with_reducible rfl)
  try simp only [Act.put, List.setIfInBounds_toArray, List.set_cons_zero, List.set_cons_succ]
  refine wpAnyH_take (i := 3) (oi := ⟨some 12, _, _, _, _, _⟩) (v := ?_) rfl (by kernel_rfl) (by kernel_rfl) (by kernel_rfl) (fun _ _ _ h => h) (Or.inl ⟨by kernel_rfl, ?_⟩) (by assumption) ?_
  rotate_left
  · (intro w hSw; (try dsimp only at hSw); go_simp; all_goals with_reducible rfl)
  try simp only [Act.put, List.setIfInBounds_toArray, List.set_cons_zero, List.set_cons_succ]
  refine wpAnyH_take (i := 4) (oi := ⟨some 13, _, _, _, _, _⟩) (v := ?_) rfl (by kernel_rfl) (by kernel_rfl) (by kernel_rfl) (fun _ _ _ h => h) (Or.inl ⟨by kernel_rfl, ?_⟩) (by assumption) ?_
  rotate_left
  · (intro w hSw; (try dsimp only at hSw); go_simp; all_goals with_reducible rfl)
  try simp only [Act.put, List.setIfInBounds_toArray, List.set_cons_zero, List.set_cons_succ]
  refine wpAnyH_take (i := 6) (oi := ⟨some 15, _, _, _, _, _⟩) (v := ?_) rfl (by kernel_rfl) (by kernel_rfl) (by kernel_rfl) (fun _ _ _ h => h) (Or.inl ⟨by kernel_rfl, ?_⟩) (by assumption) ?_
  rotate_left
  · (intro w hSw; (try dsimp only at hSw); go_simp; all_goals with_reducible rfl)
  try simp only [Act.put, List.setIfInBounds_toArray, List.set_cons_zero, List.set_cons_succ]
  refine wpAnyH_take (i := 7) (oi := ⟨some 16, _, _, _, _, _⟩) (v := ?_) rfl (by kernel_rfl) (by kernel_rfl) (by kernel_rfl) (fun _ _ _ h => h) (Or.inl ⟨by kernel_rfl, ?_⟩) (by assumption) ?_
  rotate_left
  · (intro w hSw; (try dsimp only at hSw); go_simp; all_goals with_reducible rfl)
  try simp only [Act.put, List.setIfInBounds_toArray, List.set_cons_zero, List.set_cons_succ]
  refine wpAnyH_ready (rs := [2]) (by kernel_rfl) (by simp) ?_
  refine AllReadyH.cons rfl (fun K hK => ?_) AllReadyH.nil
  go_simp
  refine (CheckLoads_is T L A B cap cap' r _ hl hl' hr (HT.out.below (by exact (by (repeat (first | (with_reducible refine Below.drew ?_) | (with_reducible refine below_drewN ?_ _) | (with_reducible refine Below.alloc ?_ (by first | omega | (simp; done) | (simp; omega) | (simp at *; omega)) _) | (with_reducible refine Below.setCell ?_ (by first | omega | (simp; done) | (simp; omega) | (simp at *; omega)) _) | (with_reducible exact Below.refl _ _) | (with_reducible assumption) | (with_reducible refine Below.trans ?_ (Below.mono (by assumption) (by first | omega | (simp; done) | (simp; omega) | (simp at *; omega))))))))) (HL.out.below (by exact (by (repeat (first | (with_reducible refine Below.drew ?_) | (with_reducible refine below_drewN ?_ _) | (with_reducible refine Below.alloc ?_ (by first | omega | (simp; done) | (simp; omega) | (simp at *; omega)) _) | (with_reducible refine Below.setCell ?_ (by first | omega | (simp; done) | (simp; omega) | (simp at *; omega)) _) | (with_reducible exact Below.refl _ _) | (with_reducible assumption) | (with_reducible refine Below.trans ?_ (Below.mono (by assumption) (by first | omega | (simp; done) | (simp; omega) | (simp at *; omega)))))))))).mono ?_
  rintro e w1 ⟨rfl, hb1⟩
  have hs1 := hb1.size
  try simp at hs1
  have c0 : w1.cell? ⟨w.heap.size, 0, none⟩ = some (.int .i64 p) := by rw [(bcell hb1).1 _ _ (by first | (simp; done) | (simp; omega) | omega)]; simp [go_sem, World.cell?_alloc_past]
  have c1 : w1.cell? ⟨w.heap.size, 1, none⟩ = some (.int .i64 f) := by rw [(bcell hb1).1 _ _ (by first | (simp; done) | (simp; omega) | omega)]; simp [go_sem, World.cell?_alloc_past]
  have hB1 : Below w.heap.size w w1 := (by (repeat (first | (with_reducible refine Below.drew ?_) | (with_reducible refine below_drewN ?_ _) | (with_reducible refine Below.alloc ?_ (by first | omega | (simp; done) | (simp; omega) | (simp at *; omega)) _) | (with_reducible refine Below.setCell ?_ (by first | omega | (simp; done) | (simp; omega) | (simp at *; omega)) _) | (with_reducible exact Below.refl _ _) | (with_reducible assumption) | (with_reducible refine Below.trans ?_ (Below.mono (by assumption) (by first | omega | (simp; done) | (simp; omega) | (simp at *; omega)))))))
  have o1 : w.heap.size < w1.heap.size := by omega
  have o2 : w1.heap.size ≠ w.heap.size := by omega
  clear hb1
  go_wp2_with fail
  refine hK.out _ _ (by simp [go_sem, World.cell?_alloc_past, *]) (fun hHeld => ?_)
  clear hK K
  try simp only [Act.put, List.setIfInBounds_toArray, List.set_cons_zero, List.set_cons_succ]
  refine wpAnyH_ready (rs := [5]) (by kernel_rfl) (by simp) ?_
  refine AllReadyH.cons rfl (fun K hK => ?_) AllReadyH.nil
  go_simp
  refine (tcheckPressure_any _ _).mono ?_
  rintro e w2 ⟨rfl, rfl⟩
  go_wp2_with fail
  refine hK.out _ _ (by simp [go_sem, World.cell?_alloc_past, *]) (fun hHeld => ?_)
  clear hK K
  try simp only [Act.put, List.setIfInBounds_toArray, List.set_cons_zero, List.set_cons_succ]
  refine wpAnyH_ready (rs := [8]) (by kernel_rfl) (by simp) ?_
  refine AllReadyH.cons rfl (fun K hK => ?_) AllReadyH.nil
  go_simp
  refine (tcheckFactor_any _ _).mono ?_
  rintro e w2 ⟨rfl, rfl⟩
  go_wp2_with fail
  refine hK.out _ _ (by simp [go_sem, World.cell?_alloc_past, *]) (fun hHeld => ?_)
  clear hK K
  try simp only [Act.put, List.setIfInBounds_toArray, List.set_cons_zero, List.set_cons_succ]
  refine wpAnyH_ready (rs := [9]) (by kernel_rfl) (by simp) ?_
  refine AllReadyH.cons rfl (fun K hK => ?_) AllReadyH.nil
  go_simp
  go_wp2_with fail
  refine hK.out _ _ (by simp [go_sem, World.cell?_alloc_past, *]) (fun hHeld => ?_)
  clear hK K
  try simp only [Act.put, List.setIfInBounds_toArray, List.set_cons_zero, List.set_cons_succ]
  refine wpAnyH_ready (rs := [10]) (by kernel_rfl) (by simp) ?_
  refine AllReadyH.cons rfl (fun K hK => ?_) AllReadyH.nil
  go_simp
  refine (cF3 _ _ _ 0 _ _ hF (by simp [go_sem]) (by simp [go_sem]) (by simp [go_sem])).mono ?_
  rintro e w2 ⟨rfl, rfl⟩
  go_wp2_with fail
  refine hK.out _ _ (by simp [go_sem, World.cell?_alloc_past, *]) (fun hHeld => ?_)
  clear hK K
  try simp only [Act.put, List.setIfInBounds_toArray, List.set_cons_zero, List.set_cons_succ]
  refine wpAnyH_take (i := 11) (oi := ⟨some 8, _, _, _, _, _⟩) (v := ?_) rfl (by kernel_rfl) (by kernel_rfl) (by kernel_rfl) (fun _ _ _ h => h) (Or.inl ⟨by kernel_rfl, ?_⟩) (by assumption) ?_
  rotate_left
  · (intro w hSw; (try dsimp only at hSw); go_simp; all_goals with_reducible rfl)
  try simp only [Act.put, List.setIfInBounds_toArray, List.set_cons_zero, List.set_cons_succ]
  refine wpAnyH_done (by kernel_rfl) ?_ _
  go_wp2_with fail
  refine (keptAt_any T L A B cap cap' p f K _ HFit p0 p1 f0 f1 HKK (Lib.hid (HT.out.below (by exact (by (repeat (first | (with_reducible refine Below.drew ?_) | (with_reducible refine below_drewN ?_ _) | (with_reducible refine Below.alloc ?_ (by first | omega | (simp; done) | (simp; omega) | (simp at *; omega)) _) | (with_reducible refine Below.setCell ?_ (by first | omega | (simp; done) | (simp; omega) | (simp at *; omega)) _) | (with_reducible exact Below.refl _ _) | (with_reducible assumption) | (with_reducible refine Below.trans ?_ (Below.mono (by assumption) (by first | omega | (simp; done) | (simp; omega) | (simp at *; omega)))))))))) (Lib.hid (HL.out.below (by exact (by (repeat (first | (with_reducible refine Below.drew ?_) | (with_reducible refine below_drewN ?_ _) | (with_reducible refine Below.alloc ?_ (by first | omega | (simp; done) | (simp; omega) | (simp at *; omega)) _) | (with_reducible refine Below.setCell ?_ (by first | omega | (simp; done) | (simp; omega) | (simp at *; omega)) _) | (with_reducible exact Below.refl _ _) | (with_reducible assumption) | (with_reducible refine Below.trans ?_ (Below.mono (by assumption) (by first | omega | (simp; done) | (simp; omega) | (simp at *; omega))))))))))).mono ?_
  rintro e w3 ⟨rfl, hb3⟩
  have hB3 : Below w.heap.size w w3 := (by (repeat (first | (with_reducible refine Below.drew ?_) | (with_reducible refine below_drewN ?_ _) | (with_reducible refine Below.alloc ?_ (by first | omega | (simp; done) | (simp; omega) | (simp at *; omega)) _) | (with_reducible refine Below.setCell ?_ (by first | omega | (simp; done) | (simp; omega) | (simp at *; omega)) _) | (with_reducible exact Below.refl _ _) | (with_reducible assumption) | (with_reducible refine Below.trans ?_ (Below.mono (by assumption) (by first | omega | (simp; done) | (simp; omega) | (simp at *; omega)))))))
  clear hb3
  go_wp2
  go_ret2
  exact ⟨rfl, hB3⟩
end Go.Proofs.Ytchfhhmmjioajaa

/- Whether loads keep the limits at a pressure: the specification's KeptAt. -/
namespace Go.Proofs.Ytchfhhmmjioajaa
open Go.ChangeShapes Go.WideShapes Go.ChangeAt Go.RowKit
set_option linter.unusedVariables false
set_option linter.unusedSimpArgs false
attribute [local go_sem ↓] Go.wp_at_zero Go.wp_at_succ
set_option maxRecDepth 100000 in
set_option maxHeartbeats 4000000 in
theorem refKeptAt_any (T : List Cm) (L : List Ld) (A B : Option Addr) (cap cap' : Nat) (p f E : Int) (w : World) (HFit : Hid (Fit T L)) (p0 : 400 ≤ p) (p1 : p ≤ 31100) (f0 : 0 ≤ f) (f1 : f ≤ 1000) (hE : Hid (keptR p f T L 2 = E)) (HT : Hid (SlCm w A T)) (HL : Hid (SlLd w B L)) :
    Calls Try.prog 51 #[.slice A T.length cap, .slice B L.length cap', .int .i64 p, .int .i64 f] w fun e w' => e = .returned (.int .i64 E) ∧ Below w.heap.size w w' := by
  have hlen : T.length ≤ L.length := by rw [HFit.out.len]; exact Nat.le_refl _
  have hmost := HFit.out.most
  go_enter Try.func51, Try.ntmps51
  go_wp2
  go_loopw [9, 10] (fun a i wr => ∃ (k : Nat) (x : Bool), k ≤ T.length ∧ i = .int .i64 k ∧ a = .bool x ∧ Hid (keptR p f (T.drop k) (L.drop k) (if x = true then 2 else 1) = E) ∧ Below w.heap.size w wr) (fun _ i _ => T.length - (intOf i).toNat)
  case atStart => exact ⟨0, true, by omega, rfl, rfl, hE, (by (repeat (first | (with_reducible refine Below.drew ?_) | (with_reducible refine below_drewN ?_ _) | (with_reducible refine Below.alloc ?_ (by first | omega | (simp; done) | (simp; omega) | (simp at *; omega)) _) | (with_reducible refine Below.setCell ?_ (by first | omega | (simp; done) | (simp; omega) | (simp at *; omega)) _) | (with_reducible exact Below.refl _ _) | (with_reducible assumption) | (with_reducible refine Below.trans ?_ (Below.mono (by assumption) (by first | omega | (simp; done) | (simp; omega) | (simp at *; omega)))))))⟩
  case round =>
    clear hE
    obtain ⟨k, x, hk, rfl, rfl, hx, hB⟩ := hrel
    by_cases hkl : k < T.length
    · have hkl2 : (k : Int) < T.length := by omega
      have hkl' : k < L.length := by omega
      have hkl3 : (k : Int) < L.length := by omega
      rcases (HT.out.below hB : SlCm wr A T) with hnil | ⟨pb, po, hAA, plt, PT⟩
      · rw [hnil] at hkl; simp at hkl
      rcases (HL.out.below hB : SlLd wr B L) with hnil | ⟨lb, lo, hBB, llt, PL⟩
      · rw [hnil] at hkl'; simp at hkl'
      subst hAA hBB
      obtain ⟨c0, c1, c2, c3⟩ := PT k hkl
      obtain ⟨d0, d1, d2, d3⟩ := PL k hkl'
      obtain ⟨q1, q2, q3, q4⟩ := cmp_ok (HFit.out.cm k hkl)
      obtain ⟨q5, q6⟩ := lodE_ok (HFit.out.ld k hkl')
      have hst := keptR_drop (p := p) (f := f) hkl hkl' (if x = true then 2 else 1)
      rw [hx.out] at hst
      obtain ⟨n, hn⟩ : ∃ z, Hid (T[k].n = z) := ⟨T[k].n, rfl⟩
      obtain ⟨h, hh⟩ : ∃ z, Hid (T[k].h = z) := ⟨T[k].h, rfl⟩
      obtain ⟨b, hb⟩ : ∃ z, Hid (T[k].b = z) := ⟨T[k].b, rfl⟩
      obtain ⟨s, hs⟩ : ∃ z, Hid (T[k].s = z) := ⟨T[k].s, rfl⟩
      obtain ⟨la, hla⟩ : ∃ z, Hid (L[k].a = z) := ⟨L[k].a, rfl⟩
      obtain ⟨lb', hlb⟩ : ∃ z, Hid (L[k].b = z) := ⟨L[k].b, rfl⟩
      obtain ⟨lc, hlc⟩ : ∃ z, Hid (L[k].c = z) := ⟨L[k].c, rfl⟩
      obtain ⟨ld', hld⟩ : ∃ z, Hid (L[k].d = z) := ⟨L[k].d, rfl⟩
      rw [hn.out] at c0
      rw [hh.out] at c1
      rw [hb.out] at c2 q3 hst
      rw [hs.out] at c3 q4 hst
      rw [hla.out] at d0 q5 hst
      rw [hlb.out] at d1 q5 hst
      rw [hlc.out] at d2 q6 hst
      rw [hld.out] at d3 q6 hst
      obtain ⟨V, hV⟩ : ∃ z, Hid (limV b s f p = z) := ⟨_, rfl⟩
      have vb := lim_bd f0 f1 q3.1 q3.2 q4.1 q4.2 (show 0 ≤ p by omega) p1
      rw [hV.out] at hst vb
      have HR := Lib.hid (fun w => refLimit_is n h b s f p V w f0 f1 q3.1 q3.2 q4.1 q4.2 (by omega) p1 hV)
      obtain ⟨q50, q51, q52⟩ := q5
      obtain ⟨q60, q61, q62⟩ := q6
      have la1 : la ≤ 100000000 := by omega
      have lc1 : lc ≤ 100000000 := by omega
      have lb0 : 0 ≤ lb' := by omega
      have ld0 : 0 ≤ ld' := by omega
      have x1 : IntKind.i64.wrap (la + lc) = la + lc := IntWalk.i64_in _ (by omega)
      have x2 : IntKind.i64.wrap (1000 * (la + lc)) = 1000 * (la + lc) := IntWalk.i64_in _ (by omega)
      have x3 : IntKind.i64.wrap (lb' + ld') = lb' + ld' := IntWalk.i64_in _ (by omega)
      have x4 : IntKind.i64.wrap (1000 * (lb' + ld')) = 1000 * (lb' + ld') := IntWalk.i64_in _ (by omega)
      have HST := Lib.hid hst
      clear hst hx PT PL hn hh hb hs hla hlb hlc hld hV q1 q2 q3 q4 q51 q61
      go_wp2_with fail
      refine (HR.out _).mono ?_
      rintro e w1 ⟨rfl, hb1⟩
      replace d0 := (hb1.cell (p := ⟨lb, lo + k * 4, none⟩) llt).trans d0
      replace d1 := (hb1.cell (p := ⟨lb, lo + k * 4 + 1, none⟩) llt).trans d1
      replace d2 := (hb1.cell (p := ⟨lb, lo + k * 4 + 2, none⟩) llt).trans d2
      replace d3 := (hb1.cell (p := ⟨lb, lo + k * 4 + 3, none⟩) llt).trans d3
      have hB1 : Below w.heap.size w w1 := hB.trans (hb1.mono hB.size)
      clear hb1 hB c0 c1 c2 c3 llt plt
      by_cases hlo : 1000 * (la + lc) ≤ V
      · have hlo' : ¬ V < 1000 * (la + lc) := by omega
        have HN : Hid (keptR p f (T.drop (k + 1)) (L.drop (k + 1)) (if 1000 * (lb' + ld') ≤ V then (if x = true then 2 else 1) else 1) = E) := by have := HST.out; rw [if_pos hlo] at this; exact this.symm
        clear HST hlo
        go_upto_region 6 with (fail)
        go_region_held3 (fun w' => w'.cell? ⟨lb, lo + k * 4, none⟩ = some (.int .i64 la) ∧ w'.cell? ⟨lb, lo + k * 4 + 2, none⟩ = some (.int .i64 lc)) (simp [go_sem, *]) (fail)
        go_wp2
        cases x with
        | true =>
          by_cases hhi : 1000 * (lb' + ld') ≤ V
          · have HN2 : Hid (keptR p f (T.drop (k + 1)) (L.drop (k + 1)) (if true = true then 2 else 1) = E) := by have := HN.out; rw [if_pos hhi] at this; exact this
            clear HN
            go_region_held3 (fun w' => w'.cell? ⟨lb, lo + k * 4 + 1, none⟩ = some (.int .i64 lb') ∧ w'.cell? ⟨lb, lo + k * 4 + 3, none⟩ = some (.int .i64 ld')) (simp [go_sem, *]) (fail)
            go_wp2
            go_roundw
            case rel => exact ⟨k + 1, true, by omega, by go_num, by first | rfl | simp, HN2, (by (repeat (first | (with_reducible refine Below.drew ?_) | (with_reducible refine below_drewN ?_ _) | (with_reducible refine Below.alloc ?_ (by first | omega | (simp; done) | (simp; omega) | (simp at *; omega)) _) | (with_reducible refine Below.setCell ?_ (by first | omega | (simp; done) | (simp; omega) | (simp at *; omega)) _) | (with_reducible exact Below.refl _ _) | (with_reducible assumption) | (with_reducible refine Below.trans ?_ (Below.mono (by assumption) (by first | omega | (simp; done) | (simp; omega) | (simp at *; omega)))))))⟩
            case measure => simp [intOf]; omega
          · have HN2 : Hid (keptR p f (T.drop (k + 1)) (L.drop (k + 1)) (if false = true then 2 else 1) = E) := by have := HN.out; rw [if_neg hhi] at this; exact this
            clear HN
            go_region_held3 (fun w' => w'.cell? ⟨lb, lo + k * 4 + 1, none⟩ = some (.int .i64 lb') ∧ w'.cell? ⟨lb, lo + k * 4 + 3, none⟩ = some (.int .i64 ld')) (simp [go_sem, *]) (fail)
            go_wp2
            go_roundw
            case rel => exact ⟨k + 1, false, by omega, by go_num, by first | rfl | (simp; omega), HN2, (by (repeat (first | (with_reducible refine Below.drew ?_) | (with_reducible refine below_drewN ?_ _) | (with_reducible refine Below.alloc ?_ (by first | omega | (simp; done) | (simp; omega) | (simp at *; omega)) _) | (with_reducible refine Below.setCell ?_ (by first | omega | (simp; done) | (simp; omega) | (simp at *; omega)) _) | (with_reducible exact Below.refl _ _) | (with_reducible assumption) | (with_reducible refine Below.trans ?_ (Below.mono (by assumption) (by first | omega | (simp; done) | (simp; omega) | (simp at *; omega)))))))⟩
            case measure => simp [intOf]; omega
        | false =>
          have HN2 : Hid (keptR p f (T.drop (k + 1)) (L.drop (k + 1)) (if false = true then 2 else 1) = E) := by
            have := HN.out
            show _ = _
            have e : (if 1000 * (lb' + ld') ≤ V then (if false = true then 2 else 1) else 1 : Int) = (if false = true then 2 else 1) := by split <;> rfl
            rw [e] at this
            exact this
          clear HN
          go_big_quiet (fail)
          go_wp2
          go_roundw
          case rel => exact ⟨k + 1, false, by omega, by go_num, by first | rfl | simp, HN2, (by (repeat (first | (with_reducible refine Below.drew ?_) | (with_reducible refine below_drewN ?_ _) | (with_reducible refine Below.alloc ?_ (by first | omega | (simp; done) | (simp; omega) | (simp at *; omega)) _) | (with_reducible refine Below.setCell ?_ (by first | omega | (simp; done) | (simp; omega) | (simp at *; omega)) _) | (with_reducible exact Below.refl _ _) | (with_reducible assumption) | (with_reducible refine Below.trans ?_ (Below.mono (by assumption) (by first | omega | (simp; done) | (simp; omega) | (simp at *; omega)))))))⟩
          case measure => simp [intOf]; omega
      · have hlo' : V < 1000 * (la + lc) := by omega
        have HN : Hid (E = 0) := by have := HST.out; rw [if_neg hlo] at this; exact this
        clear HST hlo
        go_upto_region 6 with (fail)
        go_region_held3 (fun w' => w'.cell? ⟨lb, lo + k * 4, none⟩ = some (.int .i64 la) ∧ w'.cell? ⟨lb, lo + k * 4 + 2, none⟩ = some (.int .i64 lc)) (simp [go_sem, *]) (fail)
        go_wp2
        go_ret
        exact ⟨ret_int HN.out.symm, (by (repeat (first | (with_reducible refine Below.drew ?_) | (with_reducible refine below_drewN ?_ _) | (with_reducible refine Below.alloc ?_ (by first | omega | (simp; done) | (simp; omega) | (simp at *; omega)) _) | (with_reducible refine Below.setCell ?_ (by first | omega | (simp; done) | (simp; omega) | (simp at *; omega)) _) | (with_reducible exact Below.refl _ _) | (with_reducible assumption) | (with_reducible refine Below.trans ?_ (Below.mono (by assumption) (by first | omega | (simp; done) | (simp; omega) | (simp at *; omega)))))))⟩
    · have hkl2 : ¬ (k : Int) < T.length := by omega
      have HN : Hid (E = if x = true then 2 else 1) := by show _ = _; rw [← hx.out, keptR_end (by omega)]
      cases x with
      | true =>
        go_wp2
        go_ret
        exact ⟨ret_int HN.out.symm, hB⟩
      | false =>
        go_wp2
        go_ret
        exact ⟨ret_int HN.out.symm, hB⟩
end Go.Proofs.Ytchfhhmmjioajaa

/- Small contracts for the statements on limits: light, KeptAt at every input. -/
namespace Go.Proofs.Ytchfhhmmjioajaa
open Go.ChangeShapes Go.WideShapes Go.ChangeAt Go.RowKit
set_option linter.unusedVariables false
set_option linter.unusedSimpArgs false
attribute [local go_sem ↓] Go.wp_at_zero Go.wp_at_succ
theorem light_is (T : List Cm) (L : List Ld) (A B : Option Addr) (cap cap' : Nat) (fr tz se o hh fi : Int) (r : Bool) (w : World) (hl : L.length ≤ 9223372036854775807) (hr : Hid ((fewB T.length && decide (L.length ≤ 19)) = r)) :
    Calls Try.prog 32 #[.agg #[.slice A T.length cap, .slice B L.length cap', .int .i64 fr, .int .i64 tz, .int .i64 se, .int .i64 o, .int .i64 hh, .int .i64 fi]] w fun e w' => e = .returned (.bool r) ∧ Below w.heap.size w w' := by
  cases hf : fewB T.length with
  | false =>
    have HF := Lib.hid (fun w => few_is T.length A cap false w (Lib.hid hf))
    have hv : Hid (r = false) := by show _ = _; rw [← hr.out, hf]; rfl
    clear hf hr
    go_enter Try.func32, Try.ntmps32
    go_wp2_with ((go_at_call 21; ((with_reducible refine (HF.out _).mono ?_)); rintro e w' ⟨rfl, rfl⟩))
    go_ret
    exact ⟨by first | exact ret_bool hv.out.symm | exact ret_bool (by rw [hv.out]; simp; omega), (by (repeat (first | (with_reducible refine Below.drew ?_) | (with_reducible refine below_drewN ?_ _) | (with_reducible refine Below.alloc ?_ (by first | omega | (simp; done) | (simp; omega) | (simp at *; omega)) _) | (with_reducible refine Below.setCell ?_ (by first | omega | (simp; done) | (simp; omega) | (simp at *; omega)) _) | (with_reducible exact Below.refl _ _) | (with_reducible assumption) | (with_reducible refine Below.trans ?_ (Below.mono (by assumption) (by first | omega | (simp; done) | (simp; omega) | (simp at *; omega)))))))⟩
  | true =>
    have HF := Lib.hid (fun w => few_is T.length A cap true w (Lib.hid hf))
    by_cases h19 : L.length ≤ 19
    · have h19' : (L.length : Int) ≤ 19 := by omega
      have hv : Hid (r = true) := by show _ = _; rw [← hr.out, hf]; simp [h19]
      clear hf hr h19
      go_enter Try.func32, Try.ntmps32
      go_wp2_with ((go_at_call 21; ((with_reducible refine (HF.out _).mono ?_)); rintro e w' ⟨rfl, rfl⟩))
      go_ret
      exact ⟨by first | exact ret_bool hv.out.symm | exact ret_bool (by rw [hv.out]; simp; omega), (by (repeat (first | (with_reducible refine Below.drew ?_) | (with_reducible refine below_drewN ?_ _) | (with_reducible refine Below.alloc ?_ (by first | omega | (simp; done) | (simp; omega) | (simp at *; omega)) _) | (with_reducible refine Below.setCell ?_ (by first | omega | (simp; done) | (simp; omega) | (simp at *; omega)) _) | (with_reducible exact Below.refl _ _) | (with_reducible assumption) | (with_reducible refine Below.trans ?_ (Below.mono (by assumption) (by first | omega | (simp; done) | (simp; omega) | (simp at *; omega)))))))⟩
    · have h19' : ¬ (L.length : Int) ≤ 19 := by omega
      have hv : Hid (r = false) := by show _ = _; rw [← hr.out, hf]; simp [h19]
      clear hf hr h19
      go_enter Try.func32, Try.ntmps32
      go_wp2_with ((go_at_call 21; ((with_reducible refine (HF.out _).mono ?_)); rintro e w' ⟨rfl, rfl⟩))
      go_ret
      exact ⟨by first | exact ret_bool hv.out.symm | exact ret_bool (by rw [hv.out]; simp; omega), (by (repeat (first | (with_reducible refine Below.drew ?_) | (with_reducible refine below_drewN ?_ _) | (with_reducible refine Below.alloc ?_ (by first | omega | (simp; done) | (simp; omega) | (simp at *; omega)) _) | (with_reducible refine Below.setCell ?_ (by first | omega | (simp; done) | (simp; omega) | (simp at *; omega)) _) | (with_reducible exact Below.refl _ _) | (with_reducible assumption) | (with_reducible refine Below.trans ?_ (Below.mono (by assumption) (by first | omega | (simp; done) | (simp; omega) | (simp at *; omega)))))))⟩
theorem few_le {n : Nat} (h : fewB n = true) : n ≤ 18 := by
  unfold fewB at h
  simp at h
  omega
theorem firE_3 {x y z : Int} (h : firE [x, y, z] = 0) : x = 0 ∧ y = 0 ∧ z = 0 := by
  unfold firE at h
  by_cases hx : x = 0
  · by_cases hy : y = 0
    · by_cases hz : z = 0
      · exact ⟨hx, hy, hz⟩
      · simp [hx, hy, hz, firE] at h
    · simp [hx, hy, firE] at h
  · simp [hx, firE] at h
theorem rng_0 {n a b : Int} (h : rngE n a b = 0) : a ≤ n ∧ n ≤ b := by
  rcases inB_cases n a b with h1 | h1
  · exact inB_iff.1 h1
  · rw [rngE_f h1] at h; cases h
noncomputable def keptV (T : List Cm) (L : List Ld) (p f : Int) : Int := if keptE T L p f = 0 then keptR p f T L 2 else 0
theorem KeptAt_x (T : List Cm) (L : List Ld) (A B : Option Addr) (cap cap' : Nat) (p f k g : Int) (w : World) (hl : T.length ≤ 1000000) (hl' : L.length ≤ 1000000) (hk : Hid (keptV T L p f = k)) (hg : Hid (keptE T L p f = g)) (HT : Hid (SlCm w A T)) (HL : Hid (SlLd w B L)) :
    Calls Try.prog 47 #[.slice A T.length cap, .slice B L.length cap', .agg #[.int .i64 p, .int .i64 f]] w fun e w' => e = .returned (.tuple #[.int .i64 k, .int .i64 g]) ∧ Below w.heap.size w w' := by
  rcases ez2 g with ⟨hz0, hzb⟩ | ⟨hz0, hzb⟩
  · have h0 := hz0.out
    subst h0
    have hg' := hg.out
    unfold keptE at hg'
    obtain ⟨h1, h2, h3⟩ := firE_3 hg'
    obtain ⟨p0, p1⟩ := rng_0 h2
    obtain ⟨f0, f1⟩ := rng_0 h3
    have hkk : Hid (keptR p f T L 2 = k) := by
      have := hk.out
      unfold keptV at this
      rw [if_pos hg.out] at this
      exact this
    exact KeptAt_good T L A B cap cap' p f k w hl hl' hg (Lib.hid (fit_of h1)) p0 p1 f0 f1 hkk HT HL
  · have hkk : k = 0 := by
      have := hk.out
      unfold keptV at this
      rw [if_neg (by rw [hg.out]; exact hz0.out)] at this
      exact this.symm
    subst hkk
    exact KeptAt_bad T L A B cap cap' p f g w hl hl' hg hzb HT HL
theorem keptE_q {T : List Cm} {L : List Ld} {p f q : Int} (hq : loadsE T L = q) (h : q ≠ 0) : keptE T L p f = q := by
  unfold keptE firE
  rw [hq, if_neg h]
theorem keptE_2 {T : List Cm} {L : List Ld} {p f : Int} (hq : loadsE T L = 0) (h : inB p 400 31100 = false ∨ inB f 0 1000 = false) : keptE T L p f = 2 := by
  unfold keptE
  rw [hq]
  rcases h with h | h
  · rw [rngE_f h]; rfl
  · rw [rngE_f h]
    rcases inB_cases p 400 31100 with h1 | h1
    · rw [rngE_t h1]; rfl
    · rw [rngE_f h1]; rfl
theorem keptE_0 {T : List Cm} {L : List Ld} {p f : Int} (hq : loadsE T L = 0) (h1 : inB p 400 31100 = true) (h2 : inB f 0 1000 = true) : keptE T L p f = 0 := by
  unfold keptE
  rw [hq, rngE_t h1, rngE_t h2]
  rfl
theorem cmpE_02 (n h b s : Int) : cmpE n h b s = 0 ∨ cmpE n h b s = 2 := by
  rcases inB_cases n 1 100000 with h1 | h1
  · rcases inB_cases h 1 100000 with h2 | h2
    · rcases inB_cases b 0 10000 with h3 | h3
      · rcases inB_cases s 1000 10000 with h4 | h4
        · exact Or.inl (cmpE_at h1 h2 h3 h4)
        · exact Or.inr (cmpE_4 h1 h2 h3 h4)
      · exact Or.inr (cmpE_3 h1 h2 h3)
    · exact Or.inr (cmpE_2 h1 h2)
  · exact Or.inr (cmpE_1 h1)
theorem limE3_2 {n h b s p f : Int} (hh : cmpE n h b s = 2 ∨ inB p 400 31100 = false ∨ inB f 0 1000 = false) : limE3 n h b s p f = 2 := by
  unfold limE3
  rcases cmpE_02 n h b s with h1 | h1
  · rw [h1]
    rcases hh with h2 | h2 | h2
    · rw [h1] at h2; cases h2
    · rw [rngE_f h2]; rfl
    · rw [rngE_f h2]
      rcases inB_cases p 400 31100 with h3 | h3
      · rw [rngE_t h3]; rfl
      · rw [rngE_f h3]; rfl
  · rw [h1]; rfl
end Go.Proofs.Ytchfhhmmjioajaa
