/- The angle, the cosine and the level of waves as numbers; sums of tables, tables turned over. -/
import Derived.Test.YtojaompfffpofaaGreatSPts
namespace Go.Proofs.YtojaompfffpofaaGreat
set_option linter.unusedVariables false
set_option linter.unusedSimpArgs false
/-- A wave: height, period, phase. -/
structure Wv where
  h : Int
  p : Int
  f : Int
instance : Inhabited Wv := ⟨⟨0, 0, 0⟩⟩
structure WvOk (w : Wv) : Prop where
  h0 : 0 ≤ w.h
  h1 : w.h ≤ 100000
  p0 : 1 ≤ w.p
  p1 : w.p ≤ 100000
  f0 : 0 ≤ w.f
  f1 : w.f ≤ 4095
def angI (w : Wv) (t : Int) : Int := (w.f * w.p + 4096 * t) % (4096 * w.p)
def angLo (w : Wv) (t : Int) : Int := angI w t / w.p
def angHi (w : Wv) (t : Int) : Int := (angI w t + w.p - 1) / w.p
def cosW (w : Wv) (t : Int) : Int × Int := (min (cosP (angLo w t).toNat).1 (cosP (angHi w t).toNat).1, max (cosP (angLo w t).toNat).2 (cosP (angHi w t).toNat).2)
def sumLo (L : List Wv) (t : Int) : Int := (L.map fun w => w.h * (cosW w t).1).sum
def sumHi (L : List Wv) (t : Int) : Int := (L.map fun w => w.h * (cosW w t).2).sum
def levLo (m : Int) (L : List Wv) (t : Int) : Int := m + dnO (sumLo L t)
def levHi (m : Int) (L : List Wv) (t : Int) : Int := m + upO (sumHi L t)
theorem edivLt {a b c : Int} (hb : 0 < b) (h : a < c * b) : a / b < c := by
  rcases Int.lt_or_le (a / b) c with h1 | h1
  · exact h1
  · have h2 := Int.mul_le_mul_of_nonneg_right h1 (Int.le_of_lt hb)
    have h3 := Int.ediv_mul_le a (b := b) (by omega)
    omega
theorem ang_bd {w : Wv} (hw : WvOk w) {t : Int} (h0 : 0 ≤ t) : 0 ≤ angI w t ∧ angI w t < 4096 * w.p := by
  have := hw.p0
  exact ⟨Int.emod_nonneg _ (by omega), Int.emod_lt_of_pos _ (by omega)⟩
theorem angLo_bd {w : Wv} (hw : WvOk w) {t : Int} (h0 : 0 ≤ t) : 0 ≤ angLo w t ∧ angLo w t ≤ 4095 := by
  have hp := hw.p0
  obtain ⟨h1, h2⟩ := ang_bd hw h0
  unfold angLo
  refine ⟨Int.ediv_nonneg h1 (by omega), ?_⟩
  have := edivLt (a := angI w t) (b := w.p) (c := 4096) (by omega) h2
  omega
theorem angHi_bd {w : Wv} (hw : WvOk w) {t : Int} (h0 : 0 ≤ t) : 0 ≤ angHi w t ∧ angHi w t ≤ 4096 := by
  have hp := hw.p0
  obtain ⟨h1, h2⟩ := ang_bd hw h0
  unfold angHi
  refine ⟨Int.ediv_nonneg (by omega) (by omega), ?_⟩
  have := edivLt (a := angI w t + w.p - 1) (b := w.p) (c := 4097) (by omega) (by rw [show (4097 : Int) * w.p = 4096 * w.p + w.p by grind]; omega)
  omega
theorem cosW_bd (w : Wv) (t : Int) : -100000000 ≤ (cosW w t).1 ∧ (cosW w t).1 ≤ (cosW w t).2 ∧ (cosW w t).2 ≤ 100000000 := by
  have h1 := cosP_bd (angLo w t).toNat
  have h2 := cosP_bd (angHi w t).toNat
  unfold cosW
  dsimp only
  omega
theorem hmul_bd {h c : Int} (h0 : 0 ≤ h) (h1 : h ≤ 100000) (c0 : -100000000 ≤ c) (c1 : c ≤ 100000000) : -10000000000000 ≤ h * c ∧ h * c ≤ 10000000000000 := by
  have a1 : h * c ≤ h * 100000000 := Int.mul_le_mul_of_nonneg_left c1 h0
  have a2 : h * (-100000000) ≤ h * c := Int.mul_le_mul_of_nonneg_left c0 h0
  omega
theorem sumLo_snoc (L : List Wv) (w : Wv) (t : Int) : sumLo (L ++ [w]) t = sumLo L t + w.h * (cosW w t).1 := by simp [sumLo]
theorem sumHi_snoc (L : List Wv) (w : Wv) (t : Int) : sumHi (L ++ [w]) t = sumHi L t + w.h * (cosW w t).2 := by simp [sumHi]
theorem sumLo_app (L M : List Wv) (t : Int) : sumLo (L ++ M) t = sumLo L t + sumLo M t := by simp [sumLo]
theorem sumHi_app (L M : List Wv) (t : Int) : sumHi (L ++ M) t = sumHi L t + sumHi M t := by simp [sumHi]
theorem sum_bd {L : List Wv} (hL : ∀ w ∈ L, WvOk w) (t : Int) : -(10000000000000 * (L.length : Int)) ≤ sumLo L t ∧ sumLo L t ≤ sumHi L t ∧ sumHi L t ≤ 10000000000000 * (L.length : Int) := by
  induction L with
  | nil => simp [sumLo, sumHi]
  | cons w r ih =>
    obtain ⟨i1, i2, i3⟩ := ih fun x hx => hL x (.tail _ hx)
    have hw := hL w (.head _)
    obtain ⟨c1, c2, c3⟩ := cosW_bd w t
    have b1 := hmul_bd hw.h0 hw.h1 c1 (by omega)
    have b2 := hmul_bd hw.h0 hw.h1 (by omega : -100000000 ≤ (cosW w t).2) c3
    have b3 : w.h * (cosW w t).1 ≤ w.h * (cosW w t).2 := Int.mul_le_mul_of_nonneg_left c2 hw.h0
    have e1 : sumLo (w :: r) t = w.h * (cosW w t).1 + sumLo r t := by simp [sumLo]
    have e2 : sumHi (w :: r) t = w.h * (cosW w t).2 + sumHi r t := by simp [sumHi]
    rw [e1, e2]
    simp only [List.length_cons]
    omega
theorem dnO_add (x y : Int) : dnO x + dnO y ≤ dnO (x + y) ∧ dnO (x + y) ≤ dnO x + dnO y + 1 := by unfold dnO; omega
theorem upO_add (x y : Int) : upO x + upO y - 1 ≤ upO (x + y) ∧ upO (x + y) ≤ upO x + upO y := by unfold upO; omega
theorem dnO_neg (x : Int) : dnO (-x) = -upO x := by unfold dnO upO; omega
theorem upO_neg (x : Int) : upO (-x) = -dnO x := by unfold dnO upO; simp
theorem dn_le_up {x y : Int} (h : x ≤ y) : dnO x ≤ upO y := by unfold dnO upO; omega
/-- A wave half a turn later. -/
def turnW (w : Wv) : Wv := ⟨w.h, w.p, (w.f + 2048) % 4096⟩
theorem cosP_turn {n : Nat} (h : n ≤ 2048) : cosP (n + 2048) = (-(cosP n).2, -(cosP n).1) := by
  have e1 : (n + 2048) % 1024 = n % 1024 := by omega
  have e2 : (n + 2048) / 1024 = n / 1024 + 2 := by omega
  unfold cosP
  rw [e1, e2]
  rcases (show n / 1024 = 0 ∨ n / 1024 = 1 ∨ n / 1024 = 2 by omega) with h | h | h <;> rw [h] <;> simp
theorem cosP_back {n : Nat} (h : 2048 ≤ n) (h2 : n ≤ 4096) : cosP (n - 2048) = (-(cosP n).2, -(cosP n).1) := by
  have := cosP_turn (n := n - 2048) (by omega)
  rw [show n - 2048 + 2048 = n by omega] at this
  rw [this]; simp
theorem ang_turn {w : Wv} (hw : WvOk w) {t : Int} (h0 : 0 ≤ t) : (angI w t < 2048 * w.p ∧ angI (turnW w) t = angI w t + 2048 * w.p) ∨ (2048 * w.p ≤ angI w t ∧ angI (turnW w) t = angI w t - 2048 * w.p) := by
  obtain ⟨b1, b2⟩ := ang_bd hw h0
  have hp := hw.p0
  have hf0 := hw.f0
  have hf1 := hw.f1
  have key : ∀ k : Int, (w.f + 2048) % 4096 = w.f + 2048 - 4096 * k → angI (turnW w) t = (angI w t + 2048 * w.p) % (4096 * w.p) := by
    intro k hk
    unfold angI turnW
    dsimp only
    rw [hk]
    have e : (w.f + 2048 - 4096 * k) * w.p + 4096 * t = (w.f * w.p + 4096 * t) + 2048 * w.p + (4096 * w.p) * (-k) := by grind
    rw [e, Int.add_mul_emod_self_left, Int.add_emod (w.f * w.p + 4096 * t) (2048 * w.p), Int.add_emod ((w.f * w.p + 4096 * t) % (4096 * w.p)) (2048 * w.p), Int.emod_emod_of_dvd _ (Int.dvd_refl _)]
  have e2 : angI (turnW w) t = (angI w t + 2048 * w.p) % (4096 * w.p) := by
    by_cases hc : w.f < 2048
    · exact key 0 (by omega)
    · exact key 1 (by omega)
  by_cases hc : angI w t < 2048 * w.p
  · left
    refine ⟨hc, ?_⟩
    rw [e2, Int.emod_eq_of_lt (by omega) (by omega)]
  · right
    refine ⟨by omega, ?_⟩
    rw [e2]
    have : angI w t + 2048 * w.p = (angI w t - 2048 * w.p) + (4096 * w.p) * 1 := by grind
    rw [this, Int.add_mul_emod_self_left, Int.emod_eq_of_lt (by omega) (by omega)]
theorem cosW_turn {w : Wv} (hw : WvOk w) {t : Int} (h0 : 0 ≤ t) : cosW (turnW w) t = (-(cosW w t).2, -(cosW w t).1) := by
  have hp := hw.p0
  have hp' : w.p ≠ 0 := by omega
  obtain ⟨l0, l1⟩ := angLo_bd hw h0
  obtain ⟨u0, u1⟩ := angHi_bd hw h0
  obtain ⟨b1, b2⟩ := ang_bd hw h0
  have key : cosP (angLo (turnW w) t).toNat = (-(cosP (angLo w t).toNat).2, -(cosP (angLo w t).toNat).1) ∧ cosP (angHi (turnW w) t).toNat = (-(cosP (angHi w t).toNat).2, -(cosP (angHi w t).toNat).1) := by
    rcases ang_turn hw h0 with ⟨c1, c2⟩ | ⟨c1, c2⟩
    · have e1 : angLo (turnW w) t = angLo w t + 2048 := by
        unfold angLo; rw [c2]; exact Int.add_mul_ediv_right _ _ hp'
      have e2 : angHi (turnW w) t = angHi w t + 2048 := by
        unfold angHi; rw [c2]
        show (angI w t + 2048 * w.p + w.p - 1) / w.p = _
        rw [show angI w t + 2048 * w.p + w.p - 1 = (angI w t + w.p - 1) + 2048 * w.p by omega]
        exact Int.add_mul_ediv_right _ _ hp'
      have a1 : angLo w t < 2048 := edivLt (by omega) c1
      have a2 : angHi w t < 2049 := edivLt (by omega) (by rw [show (2049 : Int) * w.p = 2048 * w.p + w.p by grind]; omega)
      rw [e1, e2]
      constructor
      · rw [show (angLo w t + 2048).toNat = (angLo w t).toNat + 2048 by omega]; exact cosP_turn (by omega)
      · rw [show (angHi w t + 2048).toNat = (angHi w t).toNat + 2048 by omega]; exact cosP_turn (by omega)
    · have e1 : angLo (turnW w) t = angLo w t - 2048 := by
        unfold angLo; rw [c2]
        show (angI w t - 2048 * w.p) / w.p = _
        rw [show angI w t - 2048 * w.p = angI w t + (-2048) * w.p by grind, Int.add_mul_ediv_right _ _ hp']; omega
      have e2 : angHi (turnW w) t = angHi w t - 2048 := by
        unfold angHi; rw [c2]
        show (angI w t - 2048 * w.p + w.p - 1) / w.p = _
        rw [show angI w t - 2048 * w.p + w.p - 1 = (angI w t + w.p - 1) + (-2048) * w.p by grind, Int.add_mul_ediv_right _ _ hp']; omega
      have a1 : 2048 ≤ angLo w t := Int.le_ediv_of_mul_le (by omega) c1
      have a2 : 2048 ≤ angHi w t := Int.le_ediv_of_mul_le (by omega) (by omega)
      rw [e1, e2]
      constructor
      · rw [show (angLo w t - 2048).toNat = (angLo w t).toNat - 2048 by omega]; exact cosP_back (by omega) (by omega)
      · rw [show (angHi w t - 2048).toNat = (angHi w t).toNat - 2048 by omega]; exact cosP_back (by omega) (by omega)
  unfold cosW
  rw [key.1, key.2]
  dsimp only
  rw [Prod.mk.injEq]
  constructor <;> omega
theorem turn_ok {w : Wv} (hw : WvOk w) : WvOk (turnW w) := by
  obtain ⟨h1, h2, h3, h4, h5, h6⟩ := hw
  exact ⟨h1, h2, h3, h4, by show 0 ≤ (w.f + 2048) % 4096; omega, by show (w.f + 2048) % 4096 ≤ 4095; omega⟩
theorem sum_turn {L : List Wv} (hL : ∀ w ∈ L, WvOk w) {t : Int} (h0 : 0 ≤ t) : sumLo (L.map turnW) t = -sumHi L t ∧ sumHi (L.map turnW) t = -sumLo L t := by
  induction L with
  | nil => simp [sumLo, sumHi]
  | cons w r ih =>
    obtain ⟨i1, i2⟩ := ih fun x hx => hL x (.tail _ hx)
    have hc := cosW_turn (hL w (.head _)) h0
    have e1 : sumLo ((w :: r).map turnW) t = w.h * (cosW (turnW w) t).1 + sumLo (r.map turnW) t := by simp [sumLo, turnW]
    have e2 : sumHi ((w :: r).map turnW) t = w.h * (cosW (turnW w) t).2 + sumHi (r.map turnW) t := by simp [sumHi, turnW]
    have e3 : sumHi (w :: r) t = w.h * (cosW w t).2 + sumHi r t := by simp [sumHi]
    have e4 : sumLo (w :: r) t = w.h * (cosW w t).1 + sumLo r t := by simp [sumLo]
    rw [e1, e2, e3, e4, i1, i2, hc]
    dsimp only
    rw [Int.mul_neg, Int.mul_neg]
    omega
theorem lev_turn (m : Int) {L : List Wv} (hL : ∀ w ∈ L, WvOk w) {t : Int} (h0 : 0 ≤ t) : levLo (-m) (L.map turnW) t = -levHi m L t ∧ levHi (-m) (L.map turnW) t = -levLo m L t := by
  obtain ⟨h1, h2⟩ := sum_turn hL h0
  unfold levLo levHi
  rw [h1, h2, dnO_neg, upO_neg]
  omega
theorem lev_app (m k : Int) (L M : List Wv) (t : Int) : (levLo m L t + levLo k M t ≤ levLo (m + k) (L ++ M) t ∧ levLo (m + k) (L ++ M) t ≤ levLo m L t + levLo k M t + 2) ∧ (levHi m L t + levHi k M t - 2 ≤ levHi (m + k) (L ++ M) t ∧ levHi (m + k) (L ++ M) t ≤ levHi m L t + levHi k M t) := by
  unfold levLo levHi
  rw [sumLo_app, sumHi_app]
  have h1 := dnO_add (sumLo L t) (sumLo M t)
  have h2 := upO_add (sumHi L t) (sumHi M t)
  omega
end Go.Proofs.YtojaompfffpofaaGreat
