/- What gas.DepthsFor returns. -/
import Derived.Test.YtbdiljbjddppcaaLeaf
namespace Go.Proofs.Ytbdiljbjddppcaa
open Go.ChangeShapes Go.WideShapes Go.ChangeAt Go.RowKit
set_option linter.unusedVariables false

def depP (o h s a b : Int) : Int := firE [gasE o h, rngE s 400 1100, limE a b]
def depLo (o s a : Int) : Int := if s < (1000 * a + o - 1) / o then (1000 * a + o - 1) / o - s else 0
def depHi (o s b : Int) : Int := if 1000 * b / o - s < 30000 then 1000 * b / o - s else 30000
theorem depLo_cases (o s a : Int) : (s < (1000 * a + o - 1) / o ∧ Hid (depLo o s a = (1000 * a + o - 1) / o - s)) ∨ (¬ s < (1000 * a + o - 1) / o ∧ Hid (depLo o s a = 0)) := by
  unfold depLo Hid
  by_cases c : s < (1000 * a + o - 1) / o
  · exact Or.inl ⟨c, if_pos c⟩
  · exact Or.inr ⟨c, if_neg c⟩
theorem depHi_cases (o s b : Int) : (1000 * b / o - s < 30000 ∧ Hid (depHi o s b = 1000 * b / o - s)) ∨ (¬ 1000 * b / o - s < 30000 ∧ Hid (depHi o s b = 30000)) := by
  unfold depHi Hid
  by_cases c : 1000 * b / o - s < 30000
  · exact Or.inl ⟨c, if_pos c⟩
  · exact Or.inr ⟨c, if_neg c⟩
def depE (o h s a b : Int) : Int := if depP o h s a b = 0 then (if o = 0 then 12 else if depLo o s a ≤ depHi o s b then 0 else 12) else depP o h s a b
def depL (o h s a b : Int) : Int := if depE o h s a b = 0 then depLo o s a else 0
def depH (o h s a b : Int) : Int := if depE o h s a b = 0 then depHi o s b else 0
/-- What is right where no error is found. -/
theorem firE3_z {x y z : Int} (h : firE [x, y, z] = 0) : x = 0 ∧ y = 0 ∧ z = 0 := by
  simp only [firE] at h
  split at h
  · split at h
    · split at h
      · exact ⟨‹_›, ‹_›, ‹_›⟩
      · exact absurd h ‹_›
    · exact absurd h ‹_›
  · exact absurd h ‹_›
theorem firE2_z {x y : Int} (h : firE [x, y] = 0) : x = 0 ∧ y = 0 := by
  simp only [firE] at h
  split at h
  · split at h
    · exact ⟨‹_›, ‹_›⟩
    · exact absurd h ‹_›
  · exact absurd h ‹_›
theorem firE4_z {x y z u : Int} (h : firE [x, y, z, u] = 0) : x = 0 ∧ y = 0 ∧ z = 0 ∧ u = 0 := by
  simp only [firE] at h
  split at h
  · split at h
    · split at h
      · split at h
        · exact ⟨‹_›, ‹_›, ‹_›, ‹_›⟩
        · exact absurd h ‹_›
      · exact absurd h ‹_›
    · exact absurd h ‹_›
  · exact absurd h ‹_›
theorem rngE_z {n a b : Int} (h : rngE n a b = 0) : a ≤ n ∧ n ≤ b := by
  rcases inB_cases n a b with k | k
  · exact inB_iff.1 k
  · rw [rngE_f k] at h; omega
theorem gasE_z {o h : Int} (k : gasE o h = 0) : 0 ≤ o ∧ o ≤ 1000 ∧ 0 ≤ h ∧ h ≤ 1000 ∧ o + h ≤ 1000 := by
  unfold gasE at k
  split at k
  · obtain ⟨k1, k2⟩ := ‹_ ∧ _›
    have := inB_iff.1 k1
    have := inB_iff.1 k2
    split at k <;> omega
  · omega
theorem limE_z {a b : Int} (k : limE a b = 0) : 1 ≤ a ∧ a ≤ 4000 ∧ 1 ≤ b ∧ b ≤ 4000 ∧ a ≤ b := by
  unfold limE at k
  split at k
  · obtain ⟨k1, k2⟩ := firE2_z (x := rngE a 1 4000) (y := rngE b 1 4000) ‹_›
    have := rngE_z k1
    have := rngE_z k2
    split at k <;> omega
  · exact absurd k ‹_›
theorem depP_z {o h s a b : Int} (k : depP o h s a b = 0) : (0 ≤ o ∧ o ≤ 1000 ∧ 0 ≤ h ∧ h ≤ 1000 ∧ o + h ≤ 1000) ∧ (400 ≤ s ∧ s ≤ 1100) ∧ 1 ≤ a ∧ a ≤ 4000 ∧ 1 ≤ b ∧ b ≤ 4000 ∧ a ≤ b := by
  obtain ⟨k1, k2, k3⟩ := firE3_z (show firE [gasE o h, rngE s 400 1100, limE a b] = 0 from k)
  exact ⟨gasE_z k1, rngE_z k2, limE_z k3⟩

end Go.Proofs.Ytbdiljbjddppcaa
