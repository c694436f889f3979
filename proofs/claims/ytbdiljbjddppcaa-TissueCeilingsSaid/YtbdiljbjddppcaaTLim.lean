/- Limits at a pressure: the program's line, and the specification's. -/
import Derived.Test.YtbdiljbjddppcaaTLimit
import Derived.Test.YtbdiljbjddppcaaTRefChk
import Derived.Test.YtbdiljbjddppcaaNums
import Derived.Test.YtbdiljbjddppcaaTSet2
import Derived.Deep.DrawnRows
import Derived.Outline
namespace Go.Proofs.Ytbdiljbjddppcaa
open Go.ChangeShapes Go.WideShapes Go.ChangeAt Go.RowKit
set_option linter.unusedVariables false
set_option linter.unusedSimpArgs false
attribute [local go_sem ↓] Go.wp_at_zero Go.wp_at_succ
/-- The limit of a compartment with base b and slope s at a pressure, with a factor; in millionths of a millibar. -/
def limV (b s f p : Int) : Int := f * 1000 * b + (1000000 + f * (s - 1000)) * p
theorem limV_ref (b s f p : Int) : 1000000 * p + f * (1000 * b + (s - 1000) * p) = limV b s f p := by
  unfold limV
  grind
theorem base_bd {b f : Int} (f0 : 0 ≤ f) (f1 : f ≤ 1000) (b0 : 0 ≤ b) (b1 : b ≤ 10000) : 0 ≤ f * 1000 * b ∧ f * 1000 * b ≤ 10000000000 :=
  ⟨Int.mul_nonneg (by omega) b0, Int.le_trans (Int.mul_le_mul (show f * 1000 ≤ 1000000 by omega) b1 b0 (by omega)) (by omega)⟩
theorem slope_bd {s f : Int} (f0 : 0 ≤ f) (f1 : f ≤ 1000) (s0 : 1000 ≤ s) (s1 : s ≤ 10000) : 1000000 ≤ 1000000 + f * (s - 1000) ∧ 1000000 + f * (s - 1000) ≤ 10000000 := by
  have := Int.mul_nonneg f0 (show 0 ≤ s - 1000 by omega)
  have := Int.mul_le_mul f1 (show s - 1000 ≤ 9000 by omega) (by omega) (show (0 : Int) ≤ 1000 by omega)
  omega
theorem line_bd {S p : Int} (s0 : 0 ≤ S) (s1 : S ≤ 10000000) (p0 : 0 ≤ p) (p1 : p ≤ 31100) : 0 ≤ S * p ∧ S * p ≤ 311000000000 :=
  ⟨Int.mul_nonneg s0 p0, Int.le_trans (Int.mul_le_mul s1 p1 p0 (by omega)) (by omega)⟩
theorem at_is (B S p V : Int) (w : World) (b0 : 0 ≤ B) (b1 : B ≤ 10000000000) (s0 : 0 ≤ S) (s1 : S ≤ 10000000) (p0 : 0 ≤ p) (p1 : p ≤ 31100) (hV : Hid (B + S * p = V)) :
    Calls Try.prog 68 #[.agg #[.int .i64 B, .int .i64 S], .int .i64 p] w fun e w' => e = .returned (.int .i64 V) ∧ Below w.heap.size w w' := by
  obtain ⟨M, hM⟩ : ∃ x, Hid (S * p = x) := ⟨_, rfl⟩
  have hm := line_bd s0 s1 p0 p1
  rw [hM.out] at hm
  have e1 : S * p = M := hM.out
  have e2 : IntKind.i64.wrap (S * p) = M := by rw [e1]; exact IntWalk.i64_in _ (by omega)
  have e3 : IntKind.i64.wrap M = M := IntWalk.i64_in _ (by omega)
  have e4 : IntKind.i64.wrap (B + M) = B + M := IntWalk.i64_in _ (by omega)
  have hv : Hid (V = B + M) := by show _ = _; rw [← hV.out, e1]
  clear hV hM
  go_enter Try.func68, Try.ntmps68
  go_wp2
  go_ret
  exact ⟨ret_int hv.out.symm, (by (repeat (first | (with_reducible refine Below.drew ?_) | (with_reducible refine below_drewN ?_ _) | (with_reducible refine Below.alloc ?_ (by first | omega | (simp; done) | (simp; omega) | (simp at *; omega)) _) | (with_reducible refine Below.setCell ?_ (by first | omega | (simp; done) | (simp; omega) | (simp at *; omega)) _) | (with_reducible exact Below.refl _ _) | (with_reducible assumption) | (with_reducible refine Below.trans ?_ (Below.mono (by assumption) (by first | omega | (simp; done) | (simp; omega) | (simp at *; omega)))))))⟩
theorem allows_is (B S x p V : Int) (r : Bool) (w : World) (b0 : 0 ≤ B) (b1 : B ≤ 10000000000) (s0 : 0 ≤ S) (s1 : S ≤ 10000000) (p0 : 0 ≤ p) (p1 : p ≤ 31100) (x0 : 0 ≤ x) (x1 : x ≤ 200000000) (hV : Hid (B + S * p = V)) (hr : Hid (decide (1000 * x ≤ V) = r)) :
    Calls Try.prog 96 #[.agg #[.int .i64 B, .int .i64 S], .int .i64 x, .int .i64 p] w fun e w' => e = .returned (.bool r) ∧ Below w.heap.size w w' := by
  have HQ : Hid (∀ w, Calls Try.prog 68 #[.agg #[.int .i64 B, .int .i64 S], .int .i64 p] w fun e w' => e = .returned (.int .i64 V) ∧ Below w.heap.size w w') := fun w => at_is B S p V w b0 b1 s0 s1 p0 p1 hV
  by_cases h : 1000 * x ≤ V
  · have hv : Hid (r = true) := by show _ = _; rw [← hr.out]; simpa using h
    clear hr hV
    go_enter Try.func96, Try.ntmps96
    go_wp2_with fail
    refine (HQ.out _).mono ?_
    rintro e w1 ⟨rfl, hb1⟩
    have hB1 : Below w.heap.size w w1 := (by (repeat (first | (with_reducible refine Below.drew ?_) | (with_reducible refine below_drewN ?_ _) | (with_reducible refine Below.alloc ?_ (by first | omega | (simp; done) | (simp; omega) | (simp at *; omega)) _) | (with_reducible refine Below.setCell ?_ (by first | omega | (simp; done) | (simp; omega) | (simp at *; omega)) _) | (with_reducible exact Below.refl _ _) | (with_reducible assumption) | (with_reducible refine Below.trans ?_ (Below.mono (by assumption) (by first | omega | (simp; done) | (simp; omega) | (simp at *; omega)))))))
    clear hb1
    go_wp2
    go_ret
    exact ⟨by first | exact ret_bool hv.out.symm | exact ret_bool (by rw [hv.out]; simp; omega), hB1⟩
  · have hv : Hid (r = false) := by show _ = _; rw [← hr.out]; simpa using h
    have h' : V < 1000 * x := by omega
    clear hr hV
    go_enter Try.func96, Try.ntmps96
    go_wp2_with fail
    refine (HQ.out _).mono ?_
    rintro e w1 ⟨rfl, hb1⟩
    have hB1 : Below w.heap.size w w1 := (by (repeat (first | (with_reducible refine Below.drew ?_) | (with_reducible refine below_drewN ?_ _) | (with_reducible refine Below.alloc ?_ (by first | omega | (simp; done) | (simp; omega) | (simp at *; omega)) _) | (with_reducible refine Below.setCell ?_ (by first | omega | (simp; done) | (simp; omega) | (simp at *; omega)) _) | (with_reducible exact Below.refl _ _) | (with_reducible assumption) | (with_reducible refine Below.trans ?_ (Below.mono (by assumption) (by first | omega | (simp; done) | (simp; omega) | (simp at *; omega)))))))
    clear hb1
    go_wp2
    go_ret
    exact ⟨by first | exact ret_bool hv.out.symm | exact ret_bool (by rw [hv.out]; simp; omega), hB1⟩
theorem refLimit_is (n h b s f p V : Int) (w : World) (f0 : 0 ≤ f) (f1 : f ≤ 1000) (b0 : 0 ≤ b) (b1 : b ≤ 10000) (s0 : 1000 ≤ s) (s1 : s ≤ 10000) (p0 : 0 ≤ p) (p1 : p ≤ 31100) (hV : Hid (limV b s f p = V)) :
    Calls Try.prog 70 #[.agg #[.int .i64 n, .int .i64 h, .int .i64 b, .int .i64 s], .int .i64 p, .int .i64 f] w fun e w' => e = .returned (.int .i64 V) ∧ Below w.heap.size w w' := by
  obtain ⟨M, hM⟩ : ∃ x, Hid ((s - 1000) * p = x) := ⟨_, rfl⟩
  have hm : 0 ≤ M ∧ M ≤ 279900000 := by
    rw [← hM.out]
    exact ⟨Int.mul_nonneg (by omega) p0, Int.le_trans (Int.mul_le_mul (show s - 1000 ≤ 9000 by omega) p1 p0 (by omega)) (by omega)⟩
  obtain ⟨K, hK⟩ : ∃ x, Hid (f * (1000 * b + M) = x) := ⟨_, rfl⟩
  have hk : 0 ≤ K ∧ K ≤ 289900000000 := by
    rw [← hK.out]
    exact ⟨Int.mul_nonneg f0 (by omega), Int.le_trans (Int.mul_le_mul f1 (show 1000 * b + M ≤ 289900000 by omega) (by omega) (by omega)) (by omega)⟩
  have e1 : (s - 1000) * p = M := hM.out
  have e2 : IntKind.i64.wrap ((s - 1000) * p) = M := by rw [e1]; exact IntWalk.i64_in _ (by omega)
  have e3 : IntKind.i64.wrap M = M := IntWalk.i64_in _ (by omega)
  have e4 : f * (1000 * b + M) = K := hK.out
  have e5 : IntKind.i64.wrap (f * (1000 * b + M)) = K := by rw [e4]; exact IntWalk.i64_in _ (by omega)
  have e6 : IntKind.i64.wrap K = K := IntWalk.i64_in _ (by omega)
  have e7 : IntKind.i64.wrap (1000 * b + M) = 1000 * b + M := IntWalk.i64_in _ (by omega)
  have e8 : IntKind.i64.wrap (1000000 * p + K) = 1000000 * p + K := IntWalk.i64_in _ (by omega)
  have hv : Hid (V = 1000000 * p + K) := by show _ = _; rw [← hV.out, ← limV_ref, e1, e4]
  clear hV hM hK
  go_enter Try.func70, Try.ntmps70
  go_wp2
  go_ret
  exact ⟨ret_int hv.out.symm, (by (repeat (first | (with_reducible refine Below.drew ?_) | (with_reducible refine below_drewN ?_ _) | (with_reducible refine Below.alloc ?_ (by first | omega | (simp; done) | (simp; omega) | (simp at *; omega)) _) | (with_reducible refine Below.setCell ?_ (by first | omega | (simp; done) | (simp; omega) | (simp at *; omega)) _) | (with_reducible exact Below.refl _ _) | (with_reducible assumption) | (with_reducible refine Below.trans ?_ (Below.mono (by assumption) (by first | omega | (simp; done) | (simp; omega) | (simp at *; omega)))))))⟩
theorem lim_bd {b s f p : Int} (f0 : 0 ≤ f) (f1 : f ≤ 1000) (b0 : 0 ≤ b) (b1 : b ≤ 10000) (s0 : 1000 ≤ s) (s1 : s ≤ 10000) (p0 : 0 ≤ p) (p1 : p ≤ 31100) : 0 ≤ limV b s f p ∧ limV b s f p ≤ 321000000000 := by
  have h1 := base_bd f0 f1 b0 b1
  have h2 := slope_bd f0 f1 s0 s1
  have h3 := line_bd (S := 1000000 + f * (s - 1000)) (by omega) (by omega) p0 p1
  unfold limV
  omega
theorem cF3 (x y z r : Int) (b : Nat) (w : World) (hr : Hid (firE [x, y, z] = r)) (h0 : w.cell? ⟨b, 0, none⟩ = some (.int .i64 x)) (h1 : w.cell? ⟨b, 1, none⟩ = some (.int .i64 y)) (h2 : w.cell? ⟨b, 2, none⟩ = some (.int .i64 z)) :
    Calls Try.prog 50 #[.slice (some ⟨b, 0, none⟩) 3 3] w fun e w' => e = .returned (.int .i64 r) ∧ w = w' := by
  rw [← hr.out]; exact cFirst3c x y z b w h0 h1 h2
theorem checkComp_is (n h b s r : Int) (w : World) (hr : Hid (cmpE n h b s = r)) :
    Calls Try.prog 64 #[.agg #[.int .i64 n, .int .i64 h, .int .i64 b, .int .i64 s]] w fun e w' => e = .returned (.int .i64 r) ∧ Below w.heap.size w w' := by
  rw [← hr.out]; exact checkCompartment_any n h b s w
/-- The error of a compartment, a pressure and a factor. -/
def limE3 (n h b s p f : Int) : Int := firE [cmpE n h b s, rngE p 400 31100, rngE f 0 1000]
theorem LimitAt_bad (n h b s p f E : Int) (w : World) (hE : Hid (limE3 n h b s p f = E)) (hz : (E != 0) = true) :
    Calls Try.prog 27 #[.agg #[.int .i64 n, .int .i64 h, .int .i64 b, .int .i64 s], .int .i64 p, .int .i64 f] w fun e w' => e = .returned (.tuple #[.agg #[.int .i64 0, .int .i64 0], .int .i64 E]) ∧ Below w.heap.size w w' := by
  obtain ⟨c, hc⟩ : ∃ x, Hid (cmpE n h b s = x) := ⟨_, rfl⟩
  have hF : Hid (firE [c, rngE p 400 31100, rngE f 0 1000] = E) := by show _ = _; rw [← hc.out]; exact hE.out
  clear hE
  go_enter Try.func27, Try.ntmps27
  go_wp2_with fail
  refine (checkComp_is n h b s c _ hc).mono ?_
  rintro e w1 ⟨rfl, hb1⟩
  have hs1 := hb1.size
  try simp at hs1
  have c0 : w1.cell? ⟨w.heap.size + 1, 0, none⟩ = some (.int .i64 0) := by rw [(bcell hb1).1 _ _ (by first | (simp; done) | (simp; omega) | omega)]; simp [go_sem, World.cell?_alloc_past]
  have c1 : w1.cell? ⟨w.heap.size + 1, 1, none⟩ = some (.int .i64 0) := by rw [(bcell hb1).1 _ _ (by first | (simp; done) | (simp; omega) | omega)]; simp [go_sem, World.cell?_alloc_past]
  have f0 : ∀ j, w1.frozen? ⟨w.heap.size + 1, j, none⟩ = false := by intro j; rw [(bcell hb1).2 _ _ (by first | (simp; done) | (simp; omega) | omega)]; simp [go_sem]
  have o2 : w.heap.size + 1 < w1.heap.size := by omega
  have o4 : w1.heap.size ≠ w.heap.size + 1 := by omega
  have hB1 : Below w.heap.size w w1 := (by (repeat (first | (with_reducible refine Below.drew ?_) | (with_reducible refine below_drewN ?_ _) | (with_reducible refine Below.alloc ?_ (by first | omega | (simp; done) | (simp; omega) | (simp at *; omega)) _) | (with_reducible refine Below.setCell ?_ (by first | omega | (simp; done) | (simp; omega) | (simp at *; omega)) _) | (with_reducible exact Below.refl _ _) | (with_reducible assumption) | (with_reducible refine Below.trans ?_ (Below.mono (by assumption) (by first | omega | (simp; done) | (simp; omega) | (simp at *; omega)))))))
  clear hb1
  go_wp2_with (first | (go_at_call 52; ((with_reducible refine (tcheckPressure_any _ _).mono ?_)); rintro e w' ⟨rfl, rfl⟩) | (go_at_call 65; ((with_reducible refine (tcheckFactor_any _ _).mono ?_)); rintro e w' ⟨rfl, rfl⟩) | (go_at_call 50; ((with_reducible refine (cF3 _ _ _ E _ _ hF (by simp [go_sem]) (by simp [go_sem]) (by simp [go_sem])).mono ?_)); rintro e w' ⟨rfl, rfl⟩))
  refine bodyPost_ret (v := .tuple #[.agg #[.int .i64 0, .int .i64 0], .int .i64 E]) (by simp [results, Try.results27, go_sem, World.cell?_alloc_past, *]) rfl ⟨rfl, ?_⟩
  (repeat (first | (with_reducible refine Below.drew ?_) | (with_reducible refine below_drewN ?_ _) | (with_reducible refine Below.alloc ?_ (by first | omega | (simp; done) | (simp; omega) | (simp at *; omega)) _) | (with_reducible refine Below.setCell ?_ (by first | omega | (simp; done) | (simp; omega) | (simp at *; omega)) _) | (with_reducible exact Below.refl _ _) | (with_reducible assumption) | (with_reducible refine Below.trans ?_ (Below.mono (by assumption) (by first | omega | (simp; done) | (simp; omega) | (simp at *; omega))))))
set_option maxHeartbeats 1000000 in
theorem LimitAt_good (n h b s p f V x y : Int) (w : World) (hc : Hid (cmpE n h b s = 0)) (f0 : 0 ≤ f) (f1 : f ≤ 1000) (b0 : 0 ≤ b) (b1 : b ≤ 10000) (s0 : 1000 ≤ s) (s1 : s ≤ 10000) (p0 : 400 ≤ p) (p1 : p ≤ 31100) (hV : Hid (limV b s f p = V)) (hx : Hid (V / 1000 = x)) (hy : Hid ((V + 1000 - 1) / 1000 = y)) :
    Calls Try.prog 27 #[.agg #[.int .i64 n, .int .i64 h, .int .i64 b, .int .i64 s], .int .i64 p, .int .i64 f] w fun e w' => e = .returned (.tuple #[.agg #[.int .i64 x, .int .i64 y], .int .i64 0]) ∧ Below w.heap.size w w' := by
  have hF : Hid (firE [0, rngE p 400 31100, rngE f 0 1000] = 0) := by show _ = _; rw [rngE_t (inB_true p0 p1), rngE_t (inB_true f0 f1)]; rfl
  have hvb := lim_bd f0 f1 b0 b1 s0 s1 (show 0 ≤ p by omega) p1
  rw [hV.out] at hvb
  obtain ⟨B, hB⟩ : ∃ z, Hid (f * 1000 * b = z) := ⟨_, rfl⟩
  obtain ⟨S, hS⟩ : ∃ z, Hid (1000000 + f * (s - 1000) = z) := ⟨_, rfl⟩
  have bb := base_bd f0 f1 b0 b1
  have ss := slope_bd f0 f1 s0 s1
  rw [hB.out] at bb
  rw [hS.out] at ss
  have hVV : Hid (B + S * p = V) := by show _ = _; rw [← hB.out, ← hS.out]; exact hV.out
  have HL : Hid (∀ w, Calls Try.prog 67 #[.agg #[.int .i64 n, .int .i64 h, .int .i64 b, .int .i64 s], .int .i64 f] w fun e w' => e = .returned (.agg #[.int .i64 B, .int .i64 S]) ∧ Below w.heap.size w w') := fun w => by
    rw [← hB.out, ← hS.out]; exact limitOf_any n h b s f w f0 f1 b0 b1 s0 s1
  have HA : Hid (∀ w, Calls Try.prog 68 #[.agg #[.int .i64 B, .int .i64 S], .int .i64 p] w fun e w' => e = .returned (.int .i64 V) ∧ Below w.heap.size w w') := fun w => at_is B S p V w bb.1 bb.2 (by omega) ss.2 (by omega) p1 hVV
  have HD : Hid (∀ w : World, Calls Try.prog 66 #[.int .i64 V, .int .i64 1000] w fun e w' => e = .returned (.agg #[.int .i64 x, .int .i64 y]) ∧ Below w.heap.size w w') := fun w => by
    rw [← hx.out, ← hy.out]
    exact (divide_any V 1000 w hvb.1 (by omega) (by omega) (by omega)).mono fun e w' ⟨h1, h2⟩ => ⟨h1, by rw [← h2]; exact ((Below.refl _ _).alloc (Nat.le_refl _) _).drew⟩
  clear hV hx hy hB hS hVV f0 f1 b0 b1 s0 s1 p0 p1 bb ss hvb
  go_enter Try.func27, Try.ntmps27
  go_wp2_with fail
  refine (checkComp_is n h b s 0 _ hc).mono ?_
  rintro e w1 ⟨rfl, hb1⟩
  have hs1 := hb1.size
  try simp at hs1
  have c0 : w1.cell? ⟨w.heap.size + 1, 0, none⟩ = some (.int .i64 0) := by rw [(bcell hb1).1 _ _ (by first | (simp; done) | (simp; omega) | omega)]; simp [go_sem, World.cell?_alloc_past]
  have c1 : w1.cell? ⟨w.heap.size + 1, 1, none⟩ = some (.int .i64 0) := by rw [(bcell hb1).1 _ _ (by first | (simp; done) | (simp; omega) | omega)]; simp [go_sem, World.cell?_alloc_past]
  have k0 : w1.cell? ⟨w.heap.size, 0, none⟩ = some (.int .i64 n) := by rw [(bcell hb1).1 _ _ (by first | (simp; done) | (simp; omega) | omega)]; simp [go_sem, World.cell?_alloc_past]
  have k1 : w1.cell? ⟨w.heap.size, 1, none⟩ = some (.int .i64 h) := by rw [(bcell hb1).1 _ _ (by first | (simp; done) | (simp; omega) | omega)]; simp [go_sem, World.cell?_alloc_past]
  have k2 : w1.cell? ⟨w.heap.size, 2, none⟩ = some (.int .i64 b) := by rw [(bcell hb1).1 _ _ (by first | (simp; done) | (simp; omega) | omega)]; simp [go_sem, World.cell?_alloc_past]
  have k3 : w1.cell? ⟨w.heap.size, 3, none⟩ = some (.int .i64 s) := by rw [(bcell hb1).1 _ _ (by first | (simp; done) | (simp; omega) | omega)]; simp [go_sem, World.cell?_alloc_past]
  have f0 : ∀ j, w1.frozen? ⟨w.heap.size + 1, j, none⟩ = false := by intro j; rw [(bcell hb1).2 _ _ (by first | (simp; done) | (simp; omega) | omega)]; simp [go_sem]
  have o1 : w.heap.size < w1.heap.size := by omega
  have o2 : w.heap.size + 1 < w1.heap.size := by omega
  have o3 : w1.heap.size ≠ w.heap.size := by omega
  have o4 : w1.heap.size ≠ w.heap.size + 1 := by omega
  have hB1 : Below w.heap.size w w1 := (by (repeat (first | (with_reducible refine Below.drew ?_) | (with_reducible refine below_drewN ?_ _) | (with_reducible refine Below.alloc ?_ (by first | omega | (simp; done) | (simp; omega) | (simp at *; omega)) _) | (with_reducible refine Below.setCell ?_ (by first | omega | (simp; done) | (simp; omega) | (simp at *; omega)) _) | (with_reducible exact Below.refl _ _) | (with_reducible assumption) | (with_reducible refine Below.trans ?_ (Below.mono (by assumption) (by first | omega | (simp; done) | (simp; omega) | (simp at *; omega)))))))
  clear hb1
  go_wp2_with (first | (go_at_call 52; ((with_reducible refine (tcheckPressure_any _ _).mono ?_)); rintro e w' ⟨rfl, rfl⟩) | (go_at_call 65; ((with_reducible refine (tcheckFactor_any _ _).mono ?_)); rintro e w' ⟨rfl, rfl⟩) | (go_at_call 50; ((with_reducible refine (cF3 _ _ _ 0 _ _ hF (by simp [go_sem]) (by simp [go_sem]) (by simp [go_sem])).mono ?_)); rintro e w' ⟨rfl, rfl⟩))
  refine (HL.out _).mono ?_
  rintro e w2 ⟨rfl, hb2⟩
  have hs2 := hb2.size
  try simp at hs2
  have d0 : w2.cell? ⟨w.heap.size + 1, 0, none⟩ = some (.int .i64 0) := by rw [(bcell hb2).1 _ _ (by first | (simp; done) | (simp; omega) | omega)]; simp [go_sem, World.cell?_alloc_past, *]
  have d1 : w2.cell? ⟨w.heap.size + 1, 1, none⟩ = some (.int .i64 0) := by rw [(bcell hb2).1 _ _ (by first | (simp; done) | (simp; omega) | omega)]; simp [go_sem, World.cell?_alloc_past, *]
  have g0 : ∀ j, w2.frozen? ⟨w.heap.size + 1, j, none⟩ = false := by intro j; rw [(bcell hb2).2 _ _ (by first | (simp; done) | (simp; omega) | omega)]; simp [go_sem, *]
  have hB2 : Below w.heap.size w w2 := (by (repeat (first | (with_reducible refine Below.drew ?_) | (with_reducible refine below_drewN ?_ _) | (with_reducible refine Below.alloc ?_ (by first | omega | (simp; done) | (simp; omega) | (simp at *; omega)) _) | (with_reducible refine Below.setCell ?_ (by first | omega | (simp; done) | (simp; omega) | (simp at *; omega)) _) | (with_reducible exact Below.refl _ _) | (with_reducible assumption) | (with_reducible refine Below.trans ?_ (Below.mono (by assumption) (by first | omega | (simp; done) | (simp; omega) | (simp at *; omega)))))))
  clear hb2 c0 c1 f0 k0 k1 k2 k3 hB1
  go_wp2_with fail
  refine (HA.out _).mono ?_
  rintro e w3 ⟨rfl, hb3⟩
  have hs3 := hb3.size
  have o5 : w.heap.size + 1 < w2.heap.size := by omega
  replace d0 := ((bcell hb3).1 _ _ o5).trans d0
  replace d1 := ((bcell hb3).1 _ _ o5).trans d1
  replace g0 : ∀ j, w3.frozen? ⟨w.heap.size + 1, j, none⟩ = false := fun j => ((bcell hb3).2 _ j o5).trans (g0 j)
  have hB3 : Below w.heap.size w w3 := hB2.trans (hb3.mono hB2.size)
  clear hb3 hB2
  go_wp2_with fail
  refine (HD.out _).mono ?_
  rintro e w4 ⟨rfl, hb4⟩
  have hs4 := hb4.size
  have o6 : w.heap.size + 1 < w3.heap.size := by omega
  replace d0 := ((bcell hb4).1 _ _ o6).trans d0
  replace d1 := ((bcell hb4).1 _ _ o6).trans d1
  replace g0 : ∀ j, w4.frozen? ⟨w.heap.size + 1, j, none⟩ = false := fun j => ((bcell hb4).2 _ j o6).trans (g0 j)
  have hB4 : Below w.heap.size w w4 := hB3.trans (hb4.mono hB3.size)
  clear hb4 hB3
  go_wp2
  refine bodyPost_ret (v := .tuple #[.agg #[.int .i64 x, .int .i64 y], .int .i64 0]) (by simp [results, Try.results27, go_sem, World.cell?_alloc_past, *]) rfl ⟨rfl, ?_⟩
  (repeat (first | (with_reducible refine Below.drew ?_) | (with_reducible refine below_drewN ?_ _) | (with_reducible refine Below.alloc ?_ (by first | omega | (simp; done) | (simp; omega) | (simp at *; omega)) _) | (with_reducible refine Below.setCell ?_ (by first | omega | (simp; done) | (simp; omega) | (simp at *; omega)) _) | (with_reducible exact Below.refl _ _) | (with_reducible assumption) | (with_reducible refine Below.trans ?_ (Below.mono (by assumption) (by first | omega | (simp; done) | (simp; omega) | (simp at *; omega))))))
theorem refLimitAt_is (n h b s p f V x y : Int) (w : World) (f0 : 0 ≤ f) (f1 : f ≤ 1000) (b0 : 0 ≤ b) (b1 : b ≤ 10000) (s0 : 1000 ≤ s) (s1 : s ≤ 10000) (p0 : 400 ≤ p) (p1 : p ≤ 31100) (hV : Hid (limV b s f p = V)) (hx : Hid (V / 1000 = x)) (hy : Hid ((V + 1000 - 1) / 1000 = y)) :
    Calls Try.prog 31 #[.agg #[.int .i64 n, .int .i64 h, .int .i64 b, .int .i64 s], .int .i64 p, .int .i64 f] w fun e w' => e = .returned (.agg #[.int .i64 x, .int .i64 y]) ∧ Below w.heap.size w w' := by
  have hvb := lim_bd f0 f1 b0 b1 s0 s1 (show 0 ≤ p by omega) p1
  rw [hV.out] at hvb
  have HL : Hid (∀ w, Calls Try.prog 70 #[.agg #[.int .i64 n, .int .i64 h, .int .i64 b, .int .i64 s], .int .i64 p, .int .i64 f] w fun e w' => e = .returned (.int .i64 V) ∧ Below w.heap.size w w') := fun w => refLimit_is n h b s f p V w f0 f1 b0 b1 s0 s1 (by omega) p1 hV
  have HF : Hid (∀ w, Calls Try.prog 71 #[.int .i64 V, .int .i64 1000] w fun e w' => e = .returned (.int .i64 x) ∧ w = w') := fun w => by rw [← hx.out]; exact baseFloor_nn V 1000 w hvb.1 (by omega) (by omega) (by omega)
  have HC : Hid (∀ w, Calls Try.prog 72 #[.int .i64 V, .int .i64 1000] w fun e w' => e = .returned (.int .i64 y) ∧ w = w') := fun w => by rw [← hy.out]; exact baseCeil_nn V 1000 w hvb.1 (by omega) (by omega) (by omega)
  clear hV hx hy f0 f1 b0 b1 s0 s1 p0 p1 hvb
  go_enter Try.func31, Try.ntmps31
  go_wp2_with fail
  refine (HL.out _).mono ?_
  rintro e w1 ⟨rfl, hb1⟩
  have hs1 := hb1.size
  try simp at hs1
  have c0 : w1.cell? ⟨w.heap.size + 1, 0, none⟩ = some (.int .i64 0) := by rw [(bcell hb1).1 _ _ (by first | (simp; done) | (simp; omega) | omega)]; simp [go_sem, World.cell?_alloc_past]
  have c1 : w1.cell? ⟨w.heap.size + 1, 1, none⟩ = some (.int .i64 0) := by rw [(bcell hb1).1 _ _ (by first | (simp; done) | (simp; omega) | omega)]; simp [go_sem, World.cell?_alloc_past]
  have f0 : ∀ j, w1.frozen? ⟨w.heap.size + 1, j, none⟩ = false := by intro j; rw [(bcell hb1).2 _ _ (by first | (simp; done) | (simp; omega) | omega)]; simp [go_sem]
  have o2 : w.heap.size + 1 < w1.heap.size := by omega
  have o4 : w1.heap.size ≠ w.heap.size + 1 := by omega
  have hB1 : Below w.heap.size w w1 := (by (repeat (first | (with_reducible refine Below.drew ?_) | (with_reducible refine below_drewN ?_ _) | (with_reducible refine Below.alloc ?_ (by first | omega | (simp; done) | (simp; omega) | (simp at *; omega)) _) | (with_reducible refine Below.setCell ?_ (by first | omega | (simp; done) | (simp; omega) | (simp at *; omega)) _) | (with_reducible exact Below.refl _ _) | (with_reducible assumption) | (with_reducible refine Below.trans ?_ (Below.mono (by assumption) (by first | omega | (simp; done) | (simp; omega) | (simp at *; omega)))))))
  clear hb1
  go_wp2_with (first | (go_at_call 71; ((with_reducible refine (HF.out _).mono ?_)); rintro e w' ⟨rfl, rfl⟩) | (go_at_call 72; ((with_reducible refine (HC.out _).mono ?_)); rintro e w' ⟨rfl, rfl⟩))
  refine bodyPost_ret (v := .agg #[.int .i64 x, .int .i64 y]) (by simp [results, Try.results31, go_sem, World.cell?_alloc_past, *]) rfl ⟨rfl, ?_⟩
  (repeat (first | (with_reducible refine Below.drew ?_) | (with_reducible refine below_drewN ?_ _) | (with_reducible refine Below.alloc ?_ (by first | omega | (simp; done) | (simp; omega) | (simp at *; omega)) _) | (with_reducible refine Below.setCell ?_ (by first | omega | (simp; done) | (simp; omega) | (simp at *; omega)) _) | (with_reducible exact Below.refl _ _) | (with_reducible assumption) | (with_reducible refine Below.trans ?_ (Below.mono (by assumption) (by first | omega | (simp; done) | (simp; omega) | (simp at *; omega))))))
end Go.Proofs.Ytbdiljbjddppcaa
