/- Mathematics of the enclosures of cosines: checked for every angle. -/
import Derived.Test.YtallnjehhoengaaGreatSPts
namespace Go.Proofs.YtallnjehhoengaaGreat
def lsq (lo hi : Int) : Int := if lo ≤ 0 ∧ 0 ≤ hi then 0 else min (lo * lo) (hi * hi)
def msq (lo hi : Int) : Int := max (lo * lo) (hi * hi)
/-- The four quarters' enclosures of a point. -/
def qtr (p : Pt) : Nat → Int × Int
  | 1 => (-p.d, -p.c)
  | 2 => (-p.b, -p.a)
  | 3 => (p.c, p.d)
  | _ => (p.a, p.b)
theorem cosP_qtr (n : Nat) (h : n < 4096) : cosP n = qtr (atP (n % 1024) 11) (n / 1024) := by
  unfold cosP
  rcases (show n / 1024 = 0 ∨ n / 1024 = 1 ∨ n / 1024 = 2 ∨ n / 1024 = 3 by omega) with e | e | e | e <;> rw [e] <;> rfl
def okB (r s : Int × Int) : Bool := decide (r.1 ≤ r.2) && decide (r.2 - r.1 ≤ 1000) && decide (-100000000 ≤ s.1) && decide (s.1 ≤ s.2) && decide (s.2 ≤ 100000000) && decide (lsq r.1 r.2 + lsq s.1 s.2 ≤ 10000000000000000) && decide (10000000000000000 ≤ msq r.1 r.2 + msq s.1 s.2)
def okP (p : Pt) : Bool := okB (qtr p 0) (qtr p 3) && okB (qtr p 1) (qtr p 0) && okB (qtr p 2) (qtr p 1) && okB (qtr p 3) (qtr p 2)
theorem okP_all : allB okP (hvL.drop 1) pt0 = true := by decide +kernel
def meetB (r t : Int × Int) : Bool := decide (max r.1 t.1 ≤ min r.2 t.2)
def meetP (p q : Pt) : Bool := meetB (qtr p 0) (qtr q 3) && meetB (qtr p 1) (qtr q 2) && meetB (qtr p 2) (qtr q 1) && meetB (qtr p 3) (qtr q 0)
def mirB (m : Nat) : Bool := m == 0 || meetP (atP m 11) (atP (1024 - m) 11)
theorem mirB_all : (List.range 1024).all mirB = true := by decide +kernel
theorem mir0 : meetB (qtr pt0 0) (qtr pt0 0) = true ∧ meetB (qtr pt0 1) (qtr pt0 3) = true ∧ meetB (qtr pt0 2) (qtr pt0 2) = true ∧ meetB (qtr pt0 3) (qtr pt0 1) = true := by decide
theorem at0k : ∀ k, atP 0 k = pt0
  | 0 => rfl
  | k + 1 => by rw [atP, if_neg (by simp [bitB]), at0k k]
theorem at0 : atP 0 11 = pt0 := at0k 11
theorem cos_ok {n : Nat} (h : n < 4096) : okB (cosP n) (cosP ((n + 3072) % 4096)) = true := by
  rw [cosP_qtr n h, cosP_qtr _ (Nat.mod_lt _ (by omega)), show (n + 3072) % 4096 % 1024 = n % 1024 by omega]
  have k := atP_P okP_all (m := n % 1024) (Nat.mod_lt _ (by omega)) (j := 11) (by omega)
  unfold okP at k
  simp only [Bool.and_eq_true] at k
  obtain ⟨⟨⟨k0, k1⟩, k2⟩, k3⟩ := k
  rcases (show n / 1024 = 0 ∨ n / 1024 = 1 ∨ n / 1024 = 2 ∨ n / 1024 = 3 by omega) with e | e | e | e
  · rw [e, show (n + 3072) % 4096 / 1024 = 3 by omega]; exact k0
  · rw [e, show (n + 3072) % 4096 / 1024 = 0 by omega]; exact k1
  · rw [e, show (n + 3072) % 4096 / 1024 = 1 by omega]; exact k2
  · rw [e, show (n + 3072) % 4096 / 1024 = 2 by omega]; exact k3
theorem cos_mir {n : Nat} (h : n < 4096) : meetB (cosP n) (cosP ((4096 - n) % 4096)) = true := by
  rw [cosP_qtr n h, cosP_qtr _ (Nat.mod_lt _ (by omega))]
  by_cases hm : n % 1024 = 0
  · rw [show (4096 - n) % 4096 % 1024 = 0 by omega, hm, at0]
    obtain ⟨k0, k1, k2, k3⟩ := mir0
    rcases (show n / 1024 = 0 ∨ n / 1024 = 1 ∨ n / 1024 = 2 ∨ n / 1024 = 3 by omega) with e | e | e | e
    · rw [e, show (4096 - n) % 4096 / 1024 = 0 by omega]; exact k0
    · rw [e, show (4096 - n) % 4096 / 1024 = 3 by omega]; exact k1
    · rw [e, show (4096 - n) % 4096 / 1024 = 2 by omega]; exact k2
    · rw [e, show (4096 - n) % 4096 / 1024 = 1 by omega]; exact k3
  · have k := (List.all_eq_true.1 mirB_all) (n % 1024) (List.mem_range.2 (Nat.mod_lt _ (by omega)))
    unfold mirB meetP at k
    rw [show (n % 1024 == 0) = false by simpa using hm, Bool.false_or] at k
    simp only [Bool.and_eq_true] at k
    obtain ⟨⟨⟨k0, k1⟩, k2⟩, k3⟩ := k
    rw [show (4096 - n) % 4096 % 1024 = 1024 - n % 1024 by omega]
    rcases (show n / 1024 = 0 ∨ n / 1024 = 1 ∨ n / 1024 = 2 ∨ n / 1024 = 3 by omega) with e | e | e | e
    · rw [e, show (4096 - n) % 4096 / 1024 = 3 by omega]; exact k0
    · rw [e, show (4096 - n) % 4096 / 1024 = 2 by omega]; exact k1
    · rw [e, show (4096 - n) % 4096 / 1024 = 1 by omega]; exact k2
    · rw [e, show (4096 - n) % 4096 / 1024 = 0 by omega]; exact k3
end Go.Proofs.YtallnjehhoengaaGreat
