import Derived.Test.YtijdphlejokijaaEWIEKnd
import Derived.Outline
namespace Go.Proofs.Ytijdphlejokijaa
set_option linter.unusedVariables false
/-- Both ends of a leg lie between the depths for its gas. -/
def legIn (r : Ru) (y : Pl) : Bool := decide (dpt (poorP r y.o y.su) 30001 ≤ (min y.bd y.d).toNat ∧ (max y.bd y.d).toNat < dpt (deepP r y.o y.h y.su) 30001)
theorem bkOf_nil {r : Ru} {y : Pl} (h : PlOk y) : bkOf r y = [] ↔ legIn r y = true := by
  have hbd := h.bd
  have hd := h.d
  have hgo := gasE_o h.ga
  obtain ⟨a, ha⟩ : ∃ a : Nat, min y.bd y.d = a := ⟨(min y.bd y.d).toNat, by omega⟩
  obtain ⟨b, hb⟩ : ∃ b : Nat, max y.bd y.d = b := ⟨(max y.bd y.d).toNat, by omega⟩
  have a1 : a < 30001 := by omega
  have b1 : b < 30001 := by omega
  have dp := dpt_is (poorP_mono r (s := y.su) hgo.1) 30001
  have dq := dpt_is (deepP_mono r (s := y.su) hgo.1 hgo.2.1 hgo.2.2.1 hgo.2.2.2.1 hgo.2.2.2.2) 30001
  have e1 : bkOf r y = [] ↔ (poorP r y.o y.su a = true ∧ deepP r y.o y.h y.su b = false) := by
    unfold bkOf brkL poorP deepP
    rw [ha, hb, show y.su + (b : Int) - y.su = b by omega]
    by_cases h1 : y.o * (y.su + a) < 1000 * r.a
    · simp [h1]
    · by_cases h2 : 0 < (kndL r y.o y.h y.su b).length
      · have h3 : kndL r y.o y.h y.su b ≠ [] := by intro e; rw [e] at h2; simp at h2
        simp [h1, h3]
      · have h3 : kndL r y.o y.h y.su b = [] := List.eq_nil_of_length_eq_zero (by omega)
        simp [h1, h3]
  rw [e1]
  unfold legIn
  rw [ha, hb, Int.toNat_natCast, Int.toNat_natCast, decide_eq_true_eq]
  constructor
  · rintro ⟨p1, p2⟩
    refine ⟨Nat.not_lt.1 fun hlt => ?_, Nat.not_le.1 fun hle => ?_⟩
    · rw [dp.2.1 a hlt] at p1; cases p1
    · rw [dq.2.2 b hle b1] at p2; cases p2
  · rintro ⟨p1, p2⟩
    exact ⟨dp.2.2 a p1 a1, dq.2.1 b p2⟩
/-- What DepthsOf says of both ends. -/
theorem legIn_dpt {r : Ru} {y : Pl} (h : PlOk y) : legIn r y = (decide ((dptP r y.o y.h y.su).2.2 = 0) && (inB y.bd (dptP r y.o y.h y.su).1 (dptP r y.o y.h y.su).2.1 && inB y.d (dptP r y.o y.h y.su).1 (dptP r y.o y.h y.su).2.1)) := by
  have hbd := h.bd
  have hd := h.d
  unfold legIn dptP inB
  by_cases e : dpt (deepP r y.o y.h y.su) 30001 ≤ dpt (poorP r y.o y.su) 30001
  · rw [if_pos e]
    have : ¬ (dpt (poorP r y.o y.su) 30001 ≤ (min y.bd y.d).toNat ∧ (max y.bd y.d).toNat < dpt (deepP r y.o y.h y.su) 30001) := by omega
    simp [this]
  · rw [if_neg e]
    rw [Bool.eq_iff_iff]
    simp only [decide_eq_true_eq, Bool.and_eq_true, decide_true, true_and]
    omega
/-- Some leg's number is among the breaks. -/
theorem bkL_any {s : Int} {G : List Ga} {D : List Le} {r : Ru} (k : Nat) (hk : k < D.length) : (∃ x ∈ bkL r (legC s G D) (List.range D.length), x.1 = (k : Int)) ↔ ¬ bkOf r (legC s G D k) = [] := by
  have hnu : ∀ j, j < D.length → (legC s G D j).nu = (j : Int) := fun j hj => by rw [legC_is hj]; rfl
  unfold bkL
  constructor
  · rintro ⟨x, hx, e⟩ hn
    obtain ⟨j, hj, hx2⟩ := List.mem_flatMap.1 hx
    obtain ⟨q, hq, rfl⟩ := List.mem_map.1 hx2
    rw [hnu j (List.mem_range.1 hj)] at e
    obtain rfl : j = k := by omega
    rw [hn] at hq
    cases hq
  · intro hn
    obtain ⟨q, hq⟩ := List.exists_mem_of_ne_nil _ hn
    exact ⟨(((legC s G D k).nu), q), List.mem_flatMap.2 ⟨k, List.mem_range.2 hk, List.mem_map.2 ⟨q, hq, rfl⟩⟩, hnu k hk⟩
end Go.Proofs.Ytijdphlejokijaa
