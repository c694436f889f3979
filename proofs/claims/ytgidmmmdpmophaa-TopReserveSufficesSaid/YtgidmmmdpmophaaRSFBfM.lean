import Derived.Test.YtgidmmmdpmophaaRSFERvM
import Derived.Outline
namespace Go.Proofs.Ytgidmmmdpmophaa
set_option linter.unusedVariables false
def bfL (D : List Le) (k : Nat) (q m g : Int) : List Le := D.take k ++ [⟨q, m, g⟩]
section
variable {nm : ByteArray} {s : Int} {G : List Ga} {D : List Le} {k : Nat} {q m : Int}
theorem bfL_len (hk : k < D.length) (g : Int) : (bfL D k q m g).length = k + 1 := by
  unfold bfL
  rw [List.length_append, List.length_take]
  simp
  omega
theorem bfL_lo {j : Nat} (hk : k < D.length) (hj : j < k) (g : Int) : (bfL D k q m g).getD j default = D.getD j default := by
  unfold bfL
  rw [List.getD_eq_getElem?_getD, List.getElem?_append_left (by rw [List.length_take]; omega), List.getElem?_take_of_lt hj, ← List.getD_eq_getElem?_getD]
theorem bfL_k (hk : k < D.length) (g : Int) : (bfL D k q m g).getD k default = ⟨q, m, g⟩ := by
  unfold bfL
  have e : (D.take k).length = k := by rw [List.length_take]; omega
  rw [List.getD_eq_getElem?_getD, List.getElem?_append_right (by omega), e, Nat.sub_self]
  rfl
theorem secs_appT : ∀ (A B : List Le), secs (A ++ B) = secs A + secs B
  | [], B => by simp [secs]
  | x :: A, B => by
    show x.s + secs (A ++ B) = x.s + secs A + secs B
    rw [secs_appT A B]; omega
theorem bfL_sec {j : Nat} (hk : k < D.length) (hj : j ≤ k) (g : Int) : secT (bfL D k q m g) j = secT D j := by
  unfold secT bfL
  rw [List.take_append_of_le_length (by rw [List.length_take]; omega), List.take_take, Nat.min_eq_left hj]
theorem bfL_end (hk : k < D.length) (g : Int) : secT (bfL D k q m g) (k + 1) = secT D k + q := by
  have e : (bfL D k q m g).take (k + 1) = bfL D k q m g := List.take_of_length_le (by rw [bfL_len hk]; exact Nat.le_refl _)
  unfold secT
  rw [e]
  unfold bfL
  rw [secs_appT]
  simp [secs]
theorem bfL_pt {j : Nat} (hk : k < D.length) (hj : j ≤ k) (g : Int) : ptK (bfL D k q m g) j = ptK D j := by
  unfold ptK
  rw [bfL_sec hk hj]
  by_cases e : j = 0
  · rw [if_pos e, if_pos e]
  · rw [if_neg e, if_neg e, bfL_lo hk (by omega)]
theorem bf_leg {j : Nat} (hk : k < D.length) (hj : j < k) (g : Int) : legK s G (bfL D k q m g) j = legK s G D j := by
  unfold legK
  rw [bfL_lo hk hj, bfL_pt hk (by omega)]
theorem bf_legk (hk : k < D.length) : legK s G (bfL D k q m (D.getD k default).g) k = { legK s G D k with s := q, d := m } := by
  unfold legK
  rw [bfL_k hk, bfL_pt hk (Nat.le_refl _)]
theorem bf_ok (h : PlnOk nm s G D) (hk : k < D.length) (q1 : 1 ≤ q) (q2 : q ≤ D[k].s) (m0 : 0 ≤ m) (m1 : m ≤ 30000) : PlnOk nm s G (bfL D k q m D[k].g) := by
  have hl := bfL_len (q := q) (m := m) hk D[k].g
  have hd := h.d6
  obtain ⟨a1, a2, a3, a4, a5, a6⟩ := h.le _ (List.getElem_mem hk)
  refine ⟨h.nm, h.su, h.g0, h.g8, h.ga, by rw [hl]; omega, fun x hx => ?_, fun j => ?_⟩
  · unfold bfL at hx
    rcases List.mem_append.1 hx with hx | hx
    · exact h.le _ (List.mem_of_mem_take hx)
    · simp at hx
      subst hx
      exact ⟨q1, by show q ≤ _; omega, m0, m1, a5, a6⟩
  · by_cases hj : j ≤ k
    · rw [bfL_sec hk hj]; exact h.sec j
    · have e : secT (bfL D k q m D[k].g) j = secT (bfL D k q m D[k].g) (k + 1) := by
        unfold secT
        rw [List.take_of_length_le (by rw [hl]; omega), List.take_of_length_le (by rw [hl]; exact Nat.le_refl _)]
      rw [e, bfL_end hk]
      have h1 := h.sec k
      have h2 := h.sec (k + 1)
      rw [secT_succ hk] at h2
      omega
/-- The part of a leg breathes, and lies, as the whole leg does up to there. -/
theorem bin_part {x : Pl} {b p : Int} (s0 : 1 ≤ x.s) (q1 : 1 ≤ q) (hm : m * x.s = x.bd * (x.s - q) + x.d * q) : binV { x with s := q, d := m } b p = binV x b p := by
  unfold binV
  show upE (b * (2 * (x.su + x.bd) * q + (x.su + m - (x.su + x.bd)) * p) * p) (120000 * q) = upE (b * (2 * (x.su + x.bd) * x.s + (x.su + x.d - (x.su + x.bd)) * p) * p) (120000 * x.s)
  rw [← upE_cancel (d := 120000 * q) (s := x.s) (by omega) (by omega), ← upE_cancel (d := 120000 * x.s) (s := q) (by omega) (by omega)]
  have e1 : 120000 * q * x.s = 120000 * x.s * q := by rw [Int.mul_assoc, Int.mul_assoc, Int.mul_comm q]
  have e2 : (x.su + m - (x.su + x.bd)) * x.s = (x.su + x.d - (x.su + x.bd)) * q := by
    rw [show x.su + m - (x.su + x.bd) = m - x.bd by omega, show x.su + x.d - (x.su + x.bd) = x.d - x.bd by omega, Int.sub_mul, Int.sub_mul, hm, Int.mul_sub]
    omega
  have e3 : (2 * (x.su + x.bd) * q + (x.su + m - (x.su + x.bd)) * p) * x.s = (2 * (x.su + x.bd) * x.s + (x.su + x.d - (x.su + x.bd)) * p) * q := by
    rw [Int.add_mul, Int.add_mul, Int.mul_right_comm _ p x.s, e2, Int.mul_right_comm _ q x.s, Int.mul_right_comm _ q p]
  have e4 : ∀ X Y : Int, b * X * p * Y = b * (X * Y) * p := fun X Y => by rw [Int.mul_right_comm, Int.mul_assoc b X Y]
  rw [e1, e4, e4, e3]
theorem dep_part {x : Pl} {p : Int} (s0 : 1 ≤ x.s) (q1 : 1 ≤ q) (hm : m * x.s = x.bd * (x.s - q) + x.d * q) : depV { x with s := q, d := m } p = depV x p := by
  unfold depV
  show upE (x.bd * (q - p) + m * p) q = upE (x.bd * (x.s - p) + x.d * p) x.s
  rw [← upE_cancel (d := q) (s := x.s) (by omega) (by omega), ← upE_cancel (d := x.s) (s := q) (by omega) (by omega), Int.mul_comm q x.s]
  congr 1
  rw [Int.add_mul, Int.add_mul, Int.mul_right_comm m p x.s, hm]
  simp only [Int.mul_sub, Int.sub_mul, Int.add_mul]
  have e1 : x.bd * q * x.s = x.bd * x.s * q := Int.mul_right_comm _ _ _
  have e2 : x.bd * p * x.s = x.bd * x.s * p := Int.mul_right_comm _ _ _
  have e3 : x.bd * q * p = x.bd * p * q := Int.mul_right_comm _ _ _
  have e4 : x.d * q * p = x.d * p * q := Int.mul_right_comm _ _ _
  omega
theorem ned_part {x : Pl} {r : Ru} {p : Int} (s0 : 1 ≤ x.s) (q1 : 1 ≤ q) (hm : m * x.s = x.bd * (x.s - q) + x.d * q) : nedV { x with s := q, d := m } r p = nedV x r p := by
  unfold nedV
  rw [bin_part s0 q1 hm, dep_part s0 q1 hm]
/-- At each second of the part the same gas is on, and as much of it is needed. -/
theorem bf_need {r : Ru} {t : Int} (h : PlnOk nm s G D) (hk : k < D.length) (hq : secT D k + q = t) (q1 : 1 ≤ q) (q2 : q ≤ D[k].s) (m0 : 0 ≤ m) (m1 : m ≤ 30000) (hm : m * (legK s G D k).s = (legK s G D k).bd * ((legK s G D k).s - q) + (legK s G D k).d * q) {i : Int} (i0 : 0 ≤ i) (i1 : i ≤ t) :
    ndG s G (bfL D k q m D[k].g) i = ndG s G D i ∧ ndV r s G (bfL D k q m D[k].g) i = ndV r s G D i := by
  have hok9 := bf_ok h hk q1 q2 m0 m1
  have hl := bfL_len (q := q) (m := m) hk D[k].g
  have hsk := secT_succ hk
  have hmo := sec_mono h (show k + 1 ≤ D.length by omega) (Nat.le_refl _)
  have hi2 : i ≤ secT D D.length := by omega
  obtain ⟨a1, a2, a3⟩ := lgN_is h (by omega) hi2
  have hlk : lgN D i ≤ k := by
    rcases Nat.lt_or_ge k (lgN D i) with e | e
    · have := a2 k e; omega
    · exact e
  have hlg : lgN (bfL D k q m D[k].g) i = lgN D i := lgN_eq hok9 (by rw [hl]; omega) (fun j hj => by rw [bfL_sec hk (by omega)]; exact a2 j hj) (by
    by_cases e : lgN D i = k
    · rw [e, bfL_end hk]; omega
    · rw [bfL_sec hk (by omega)]; exact a3)
  have hgk : D[k].g = (D.getD k default).g := by rw [getD_leE hk]
  have hleg : ∀ j, j < k → legC s G (bfL D k q m D[k].g) j = legC s G D j := fun j hj => by
    rw [legC_is (by rw [hl]; omega), legC_is (by omega), bf_leg hk hj]
  have hs0 := (legK_ok (s := s) (G := G) h hk).s.1
  have hg1 : ndG s G (bfL D k q m D[k].g) i = ndG s G D i := by
    unfold ndG
    rw [hlg]
    by_cases e : lgN D i = k
    · rw [e, hgk, bf_legk hk]
    · rw [bf_leg hk (by omega)]
  refine ⟨hg1, ?_⟩
  unfold ndV
  rw [hlg, hg1, bfL_sec hk hlk, conA_congr (f := legC s G (bfL D k q m D[k].g)) (g := legC s G D) (fun j hj => hleg j (by have := List.mem_range.1 hj; omega))]
  congr 1
  by_cases e : lgN D i = k
  · rw [e, legC_is (by rw [hl]; omega), legC_is hk, hgk, bf_legk hk, ned_part hs0 q1 hm]
  · rw [hleg _ (by omega)]
end
section
variable {f : Int × Int → Int → Int → Int × Int} {gF gH : Nat → Nat} {vF vH sF sH : Nat → Int} {n N : Nat}
theorem rvG_congr : ∀ i, (∀ j, j < i → gF j = gH j ∧ vF j = vH j ∧ sF j = sH j) → rvG f gF vF sF n i = rvG f gH vH sH n i
  | 0, _ => rfl
  | i + 1, h => by
    obtain ⟨h1, h2, h3⟩ := h i (by omega)
    show (rvG f gF vF sF n i).set (gF i) _ = (rvG f gH vH sH n i).set (gH i) _
    rw [rvG_congr i (fun j hj => h j (by omega)), h1, h2, h3]
theorem rv_up1 (i : Nat) (h : gF i < n) (g : Nat) : ((rvG rvS gF vF sF n i).getD g (0, -1)).1 ≤ ((rvG rvS gF vF sF n (i + 1)).getD g (0, -1)).1 := by
  by_cases e : gF i = g
  · subst e
    rw [rvG_eq h]
    unfold rvS
    split
    · omega
    · exact Int.le_refl _
  · rw [rvG_ne e]; exact Int.le_refl _
theorem rv_up (hg : ∀ i, i < N → gF i < n) (g : Nat) : ∀ i, i ≤ N → ((rvG rvS gF vF sF n i).getD g (0, -1)).1 ≤ ((rvG rvS gF vF sF n N).getD g (0, -1)).1 := by
  intro i hi
  obtain ⟨d, rfl⟩ : ∃ d, N = i + d := ⟨N - i, by omega⟩
  clear hi
  induction d with
  | zero => exact Int.le_refl _
  | succ d ih => exact Int.le_trans (ih (fun j hj => hg j (by omega))) (rv_up1 (i + d) (hg _ (by omega)) g)
end
end Go.Proofs.Ytgidmmmdpmophaa
