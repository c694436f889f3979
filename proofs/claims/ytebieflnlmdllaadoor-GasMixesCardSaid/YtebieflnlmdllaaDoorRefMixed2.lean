/- What the reference's mixture returns: the four cases as one. -/
import Derived.Test.YtebieflnlmdllaaDoorRefMixed
namespace Go.Proofs.YtebieflnlmdllaaDoor
open Go.ChangeShapes Go.WideShapes Go.ChangeAt Go.RowKit
set_option linter.unusedVariables false

theorem small_t {n d : Int} (h0 : 0 ≤ n) (h1 : n ≤ d) (h2 : 1 ≤ d) (h : d ≤ 1000000000) : (inB n (-1000000000) 1000000000 && inB d 1 1000000000) = true := by
  rw [inB_true (by omega) (by omega), inB_true h2 h]; rfl
theorem small_f {n d : Int} (h : ¬ d ≤ 1000000000) : (inB n (-1000000000) 1000000000 && inB d 1 1000000000) = false := by
  rw [inB_f2 h, Bool.and_false]
theorem refMixed_any (P : List Part) (b off cap : Nat) (w : World) (hlt : b < w.heap.size) (hP : PartsAt w b off P) (h0 : checkPartsE P = 0) :
    Calls Tryd.prog 60 #[.slice (some ⟨b, off, none⟩) P.length cap] w fun e w' => e = .returned (.tuple #[.agg #[.int .i64 (mixR P 0), .int .i64 (mixR P 1), .int .i64 (mixR P 2), .int .i64 (mixR P 3), .int .i64 (mixR P 4), .int .i64 (mixR P 5)], .int .i64 (mixE P)]) ∧ Below w.heap.size w w' := by
  obtain ⟨hl, hR, hn⟩ := checkPartsE_z h0
  have A0 := sumA_pos hR hn
  have A1 := (sumA_bd hl hR).2
  have hT : 1000 * sumF pA P = all3 P := rfl
  have T0 : 0 < all3 P := by unfold all3; omega
  have T1 : all3 P ≤ 12000000000000 := by unfold all3; omega
  have hV : all3 P - sumF pO P - sumF pH P = sumF pN P := (sumN_eq P).symm
  have X0 : 0 ≤ sumF pO P := (prt_bd hl hR 0).1
  have Y0 : 0 ≤ sumF pH P := (prt_bd hl hR 1).1
  have V0 : 0 ≤ sumF pN P := (prt_bd hl hR 2).1
  have X1 : sumF pO P ≤ all3 P := prt_le hl hR 0
  have Y1 : sumF pH P ≤ all3 P := prt_le hl hR 1
  have V1 : sumF pN P ≤ all3 P := prt_le hl hR 2
  obtain ⟨a0, b0, c0⟩ := mix_bd hl hR hn 0
  obtain ⟨a1, b1, c1⟩ := mix_bd hl hR hn 1
  obtain ⟨a2, b2, c2⟩ := mix_bd hl hR hn 2
  have no : ¬ (mixD P 0 ≤ 1000000000 ∧ mixD P 1 ≤ 1000000000 ∧ mixD P 2 ≤ 1000000000) → mixE P = 8 ∧ ∀ j, mixR P j = 0 := fun h => by
    have e : mixE P = 8 := by unfold mixE; rw [if_pos h0, if_neg h]
    exact ⟨e, fun j => by unfold mixR; rw [e]; rfl⟩
  by_cases g0 : mixD P 0 ≤ 1000000000
  · by_cases g1 : mixD P 1 ≤ 1000000000
    · by_cases g2 : mixD P 2 ≤ 1000000000
      · have e : mixE P = 0 := by unfold mixE; rw [if_pos h0, if_pos ⟨g0, g1, g2⟩]
        have r : ∀ j, mixR P j = mixV P 3 j := fun j => by unfold mixR; rw [e]; rfl
        rw [e, r, r, r, r, r, r]
        exact refMixed_c3 P b off cap w hl hlt hP hR _ _ _ _ _ rfl rfl rfl hT hV T0 T1 X0 X1 Y0 Y1 V0 V1 (mixN P 0) (mixD P 0) rfl rfl (small_t a0 b0 c0 g0) (mixN P 1) (mixD P 1) rfl rfl (small_t a1 b1 c1 g1) (mixN P 2) (mixD P 2) rfl rfl (small_t a2 b2 c2 g2)
      · obtain ⟨e, r⟩ := no (by omega)
        rw [e, r, r, r, r, r, r]
        exact refMixed_c2 P b off cap w hl hlt hP hR _ _ _ _ _ rfl rfl rfl hT hV T0 T1 X0 X1 Y0 Y1 V0 V1 (mixN P 0) (mixD P 0) rfl rfl (small_t a0 b0 c0 g0) (mixN P 1) (mixD P 1) rfl rfl (small_t a1 b1 c1 g1) (mixN P 2) (mixD P 2) rfl rfl (small_f g2)
    · obtain ⟨e, r⟩ := no (by omega)
      rw [e, r, r, r, r, r, r]
      exact refMixed_c1 P b off cap w hl hlt hP hR _ _ _ _ _ rfl rfl rfl hT hV T0 T1 X0 X1 Y0 Y1 V0 V1 (mixN P 0) (mixD P 0) rfl rfl (small_t a0 b0 c0 g0) (mixN P 1) (mixD P 1) rfl rfl (small_f g1)
  · obtain ⟨e, r⟩ := no (by omega)
    rw [e, r, r, r, r, r, r]
    exact refMixed_c0 P b off cap w hl hlt hP hR _ _ _ _ _ rfl rfl rfl hT hV T0 T1 X0 X1 Y0 Y1 V0 V1 (mixN P 0) (mixD P 0) rfl rfl (small_f g0)
end Go.Proofs.YtebieflnlmdllaaDoor
