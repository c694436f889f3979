import Derived.Test.YtojaompfffpofaaGreatZCSPts
namespace Go.Proofs.YtojaompfffpofaaGreat
set_option linter.unusedVariables false
set_option linter.unusedSimpArgs false
/-- A wave: height, period, phase. -/
structure Wv where
  h : Int
  p : Int
  f : Int
instance : Inhabited Wv := ⟨⟨0, 0, 0⟩⟩
structure WvOk (w : Wv) : Prop where
  h0 : 0 ≤ w.h
  h1 : w.h ≤ 100000
  p0 : 1 ≤ w.p
  p1 : w.p ≤ 100000
  f0 : 0 ≤ w.f
  f1 : w.f ≤ 4095
def angI (w : Wv) (t : Int) : Int := (w.f * w.p + 4096 * t) % (4096 * w.p)
def angLo (w : Wv) (t : Int) : Int := angI w t / w.p
def angHi (w : Wv) (t : Int) : Int := (angI w t + w.p - 1) / w.p
def cosW (w : Wv) (t : Int) : Int × Int := (min (cosP (angLo w t).toNat).1 (cosP (angHi w t).toNat).1, max (cosP (angLo w t).toNat).2 (cosP (angHi w t).toNat).2)
def sumLo (L : List Wv) (t : Int) : Int := (L.map fun w => w.h * (cosW w t).1).sum
def sumHi (L : List Wv) (t : Int) : Int := (L.map fun w => w.h * (cosW w t).2).sum
def levLo (m : Int) (L : List Wv) (t : Int) : Int := m + dnO (sumLo L t)
def levHi (m : Int) (L : List Wv) (t : Int) : Int := m + upO (sumHi L t)
theorem edivLt {a b c : Int} (hb : 0 < b) (h : a < c * b) : a / b < c := by
  rcases Int.lt_or_le (a / b) c with h1 | h1
  · exact h1
  · have h2 := Int.mul_le_mul_of_nonneg_right h1 (Int.le_of_lt hb)
    have h3 := Int.ediv_mul_le a (b := b) (by omega)
    omega
theorem ang_bd {w : Wv} (hw : WvOk w) {t : Int} (h0 : 0 ≤ t) : 0 ≤ angI w t ∧ angI w t < 4096 * w.p := by
  have := hw.p0
  exact ⟨Int.emod_nonneg _ (by omega), Int.emod_lt_of_pos _ (by omega)⟩
theorem angLo_bd {w : Wv} (hw : WvOk w) {t : Int} (h0 : 0 ≤ t) : 0 ≤ angLo w t ∧ angLo w t ≤ 4095 := by
  have hp := hw.p0
  obtain ⟨h1, h2⟩ := ang_bd hw h0
  unfold angLo
  refine ⟨Int.ediv_nonneg h1 (by omega), ?_⟩
  have := edivLt (a := angI w t) (b := w.p) (c := 4096) (by omega) h2
  omega
theorem angHi_bd {w : Wv} (hw : WvOk w) {t : Int} (h0 : 0 ≤ t) : 0 ≤ angHi w t ∧ angHi w t ≤ 4096 := by
  have hp := hw.p0
  obtain ⟨h1, h2⟩ := ang_bd hw h0
  unfold angHi
  refine ⟨Int.ediv_nonneg (by omega) (by omega), ?_⟩
  have := edivLt (a := angI w t + w.p - 1) (b := w.p) (c := 4097) (by omega) (by rw [show (4097 : Int) * w.p = 4096 * w.p + w.p by grind]; omega)
  omega
theorem cosW_bd (w : Wv) (t : Int) : -100000000 ≤ (cosW w t).1 ∧ (cosW w t).1 ≤ (cosW w t).2 ∧ (cosW w t).2 ≤ 100000000 := by
  have h1 := cosP_bd (angLo w t).toNat
  have h2 := cosP_bd (angHi w t).toNat
  unfold cosW
  dsimp only
  omega
theorem hmul_bd {h c : Int} (h0 : 0 ≤ h) (h1 : h ≤ 100000) (c0 : -100000000 ≤ c) (c1 : c ≤ 100000000) : -10000000000000 ≤ h * c ∧ h * c ≤ 10000000000000 := by
  have a1 : h * c ≤ h * 100000000 := Int.mul_le_mul_of_nonneg_left c1 h0
  have a2 : h * (-100000000) ≤ h * c := Int.mul_le_mul_of_nonneg_left c0 h0
  omega
theorem sumLo_snoc (L : List Wv) (w : Wv) (t : Int) : sumLo (L ++ [w]) t = sumLo L t + w.h * (cosW w t).1 := by simp [sumLo]
theorem sumHi_snoc (L : List Wv) (w : Wv) (t : Int) : sumHi (L ++ [w]) t = sumHi L t + w.h * (cosW w t).2 := by simp [sumHi]
theorem sum_bd {L : List Wv} (hL : ∀ w ∈ L, WvOk w) (t : Int) : -(10000000000000 * (L.length : Int)) ≤ sumLo L t ∧ sumLo L t ≤ sumHi L t ∧ sumHi L t ≤ 10000000000000 * (L.length : Int) := by
  induction L with
  | nil => simp [sumLo, sumHi]
  | cons w r ih =>
    obtain ⟨i1, i2, i3⟩ := ih fun x hx => hL x (.tail _ hx)
    have hw := hL w (.head _)
    obtain ⟨c1, c2, c3⟩ := cosW_bd w t
    have b1 := hmul_bd hw.h0 hw.h1 c1 (by omega)
    have b2 := hmul_bd hw.h0 hw.h1 (by omega : -100000000 ≤ (cosW w t).2) c3
    have b3 : w.h * (cosW w t).1 ≤ w.h * (cosW w t).2 := Int.mul_le_mul_of_nonneg_left c2 hw.h0
    have e1 : sumLo (w :: r) t = w.h * (cosW w t).1 + sumLo r t := by simp [sumLo]
    have e2 : sumHi (w :: r) t = w.h * (cosW w t).2 + sumHi r t := by simp [sumHi]
    rw [e1, e2]
    simp only [List.length_cons]
    omega
end Go.Proofs.YtojaompfffpofaaGreat
