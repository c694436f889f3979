import Derived.Test.YtojaompfffpofaaGreatZCLeaf
namespace Go.Proofs.YtojaompfffpofaaGreat
set_option linter.unusedVariables false
set_option linter.unusedSimpArgs false
/-- Cosine from a to b, sine from c to d. -/
structure Pt where
  a : Int
  b : Int
  c : Int
  d : Int
instance : Inhabited Pt := ⟨⟨0, 0, 0, 0⟩⟩
def dnO (n : Int) : Int := n / 100000000
def upO (n : Int) : Int := -((-n) / 100000000)
def trn (p q : Pt) : Pt := ⟨max 0 (dnO (p.a * q.a - p.d * q.d)), upO (p.b * q.b - p.c * q.c), dnO (p.c * q.a + p.a * q.c), min 100000000 (upO (p.d * q.b + p.b * q.d))⟩
def hvL : List Pt := [⟨0, 0, 100000000, 100000000⟩, ⟨70710678, 70710679, 70710678, 70710679⟩, ⟨92387953, 92387954, 38268342, 38268344⟩, ⟨98078527, 98078529, 19509031, 19509033⟩, ⟨99518472, 99518473, 9801711, 9801717⟩, ⟨99879545, 99879546, 4906765, 4906771⟩, ⟨99969881, 99969882, 2454118, 2454130⟩, ⟨99992469, 99992471, 1227151, 1227172⟩, ⟨99998117, 99998118, 613555, 613637⟩, ⟨99999529, 99999530, 306757, 306839⟩, ⟨99999882, 99999883, 153297, 153461⟩]
def hv (k : Nat) : Pt := hvL.getD k default
def pt0 : Pt := ⟨100000000, 100000000, 0, 0⟩
def bitB (m k : Nat) : Bool := m / 2 ^ (10 - k) % 2 == 1
/-- The sum of the first k halves that an angle has. -/
def atP (m : Nat) : Nat → Pt
  | 0 => pt0
  | k + 1 => if bitB m k = true then trn (atP m k) (hv k) else atP m k
def ptB (p : Pt) : Bool := decide (0 ≤ p.a) && decide (p.a ≤ p.b) && decide (p.b ≤ 100000000) && decide (0 ≤ p.c) && decide (p.c ≤ p.d) && decide (p.d ≤ 100000000)
def allB (P : Pt → Bool) : List Pt → Pt → Bool
  | [], p => P p
  | q :: r, p => P p && (allB P r p && allB P r (trn p q))
theorem allB_all : allB ptB (hvL.drop 1) pt0 = true := by decide +kernel
theorem hv_drop {j : Nat} (hj : j < 11) : hvL.drop j = hv j :: hvL.drop (j + 1) := by
  rcases (show j = 0 ∨ j = 1 ∨ j = 2 ∨ j = 3 ∨ j = 4 ∨ j = 5 ∨ j = 6 ∨ j = 7 ∨ j = 8 ∨ j = 9 ∨ j = 10 by omega) with rfl | rfl | rfl | rfl | rfl | rfl | rfl | rfl | rfl | rfl | rfl <;> rfl
theorem bit0 {m : Nat} (h : m < 1024) : bitB m 0 = false := by
  unfold bitB
  have : m / 2 ^ (10 - 0) = 0 := Nat.div_eq_of_lt (by simpa using h)
  rw [this]; rfl
theorem atP_allB {P : Pt → Bool} (h0 : allB P (hvL.drop 1) pt0 = true) {m : Nat} (hm : m < 1024) : ∀ j, j ≤ 10 → allB P (hvL.drop (j + 1)) (atP m (j + 1)) = true
  | 0, _ => by unfold atP; rw [bit0 hm, if_neg (by simp)]; exact h0
  | j + 1, hj => by
    have ih := atP_allB h0 hm j (by omega)
    rw [hv_drop (by omega)] at ih
    unfold allB at ih
    simp only [Bool.and_eq_true] at ih
    show allB P _ (if bitB m (j + 1) = true then _ else _) = true
    split
    · exact ih.2.2
    · exact ih.2.1
theorem allB_P {P : Pt → Bool} : ∀ {l : List Pt} {p : Pt}, allB P l p = true → P p = true
  | [], _, h => h
  | _ :: _, _, h => by unfold allB at h; simp only [Bool.and_eq_true] at h; exact h.1
theorem atP_P {P : Pt → Bool} (h0 : allB P (hvL.drop 1) pt0 = true) {m : Nat} (hm : m < 1024) {j : Nat} (hj : j ≤ 11) : P (atP m j) = true := by
  rcases j with _ | j
  · exact allB_P h0
  · exact allB_P (atP_allB h0 hm j (by omega))
structure PtOk (p : Pt) : Prop where
  a0 : 0 ≤ p.a
  ab : p.a ≤ p.b
  b1 : p.b ≤ 100000000
  c0 : 0 ≤ p.c
  cd : p.c ≤ p.d
  d1 : p.d ≤ 100000000
theorem ptB_ok {p : Pt} (h : ptB p = true) : PtOk p := by
  unfold ptB at h
  simp only [Bool.and_eq_true, decide_eq_true_eq] at h
  obtain ⟨⟨⟨⟨⟨h1, h2⟩, h3⟩, h4⟩, h5⟩, h6⟩ := h
  exact ⟨h1, h2, h3, h4, h5, h6⟩
theorem atP_ok {m : Nat} (hm : m < 1024) {j : Nat} (hj : j ≤ 11) : PtOk (atP m j) := ptB_ok (atP_P allB_all hm hj)
theorem hv_ok (k : Nat) : PtOk (hv k) := by
  by_cases hk : k < 11
  · rcases (show k = 0 ∨ k = 1 ∨ k = 2 ∨ k = 3 ∨ k = 4 ∨ k = 5 ∨ k = 6 ∨ k = 7 ∨ k = 8 ∨ k = 9 ∨ k = 10 by omega) with rfl | rfl | rfl | rfl | rfl | rfl | rfl | rfl | rfl | rfl | rfl <;> exact ptB_ok (by decide +kernel)
  · have : hv k = ⟨0, 0, 0, 0⟩ := by unfold hv; rw [List.getD_eq_getElem?_getD, List.getElem?_eq_none (by show 11 ≤ k; omega)]; rfl
    rw [this]; exact ptB_ok (by decide +kernel)
/-- The cosine of an angle from 0 to a whole turn. -/
def cosP (n : Nat) : Int × Int :=
  if n / 1024 = 1 then (-(atP (n % 1024) 11).d, -(atP (n % 1024) 11).c) else if n / 1024 = 2 then (-(atP (n % 1024) 11).b, -(atP (n % 1024) 11).a) else if n / 1024 = 3 then ((atP (n % 1024) 11).c, (atP (n % 1024) 11).d) else ((atP (n % 1024) 11).a, (atP (n % 1024) 11).b)
theorem cosP_bd (n : Nat) : -100000000 ≤ (cosP n).1 ∧ (cosP n).1 ≤ (cosP n).2 ∧ (cosP n).2 ≤ 100000000 := by
  have h := atP_ok (m := n % 1024) (Nat.mod_lt _ (by omega)) (j := 11) (by omega)
  obtain ⟨h1, h2, h3, h4, h5, h6⟩ := h
  unfold cosP
  split
  · exact ⟨by show _ ≤ -_; omega, by show -_ ≤ -_; omega, by show -_ ≤ _; omega⟩
  · split
    · exact ⟨by show _ ≤ -_; omega, by show -_ ≤ -_; omega, by show -_ ≤ _; omega⟩
    · split
      · exact ⟨by show _ ≤ _; omega, by show _ ≤ _; omega, by show _ ≤ _; omega⟩
      · exact ⟨by show _ ≤ _; omega, by show _ ≤ _; omega, by show _ ≤ _; omega⟩
end Go.Proofs.YtojaompfffpofaaGreat
