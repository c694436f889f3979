/- The minutes at which something may change, ascending; the windows made of them, as the specification does (mathematics). -/
import Derived.Test.YtojaompfffpofaaGreatSUniq
namespace Go.Proofs.YtojaompfffpofaaGreat
set_option linter.unusedVariables false
set_option linter.unusedSimpArgs false
/-- How many numbers ahead are less. -/
def lessN (l : List Int) (m : Int) : Nat := (l.takeWhile fun x => decide (x < m)).length
def insU (l : List Int) (m : Int) : List Int := if lessN l m = l.length ∨ l.getD (lessN l m) 0 ≠ m then l.take (lessN l m) ++ [m] ++ l.drop (lessN l m) else l
theorem lessN_le (l : List Int) (m : Int) : lessN l m ≤ l.length := by
  unfold lessN
  induction l with
  | nil => simp
  | cons a r ih => rw [List.takeWhile_cons]; split <;> simp; omega
theorem lessN_lt : ∀ {l : List Int} {m : Int} {k : Nat}, k < lessN l m → ∀ h : k < l.length, l[k] < m
  | [], _, k, _, h => by simp at h
  | a :: r, m, k, hk, h => by
    unfold lessN at hk
    rw [List.takeWhile_cons] at hk
    by_cases ha : a < m
    · rw [if_pos (by simpa using ha)] at hk
      cases k with
      | zero => exact ha
      | succ k => exact lessN_lt (l := r) (by unfold lessN; simp at hk; omega) (by simp at h; omega)
    · rw [if_neg (by simpa using ha)] at hk; simp at hk
theorem lessN_at : ∀ {l : List Int} {m : Int} (h : lessN l m < l.length), ¬ l[lessN l m] < m
  | [], _, h => by simp at h
  | a :: r, m, h => by
    by_cases ha : a < m
    · have e : lessN (a :: r) m = lessN r m + 1 := by unfold lessN; rw [List.takeWhile_cons, if_pos (by simpa using ha)]; simp
      have h2 : lessN r m < r.length := by rw [e] at h; simpa using h
      have := lessN_at (l := r) h2
      simp only [e, List.getElem_cons_succ]
      exact this
    · have e : lessN (a :: r) m = 0 := by unfold lessN; rw [List.takeWhile_cons, if_neg (by simpa using ha)]; rfl
      simp only [e, List.getElem_cons_zero]
      exact ha
theorem lessN_eq {l : List Int} {m : Int} {k : Nat} (hk : k ≤ l.length) (h1 : ∀ j, j < k → ∀ h : j < l.length, l[j] < m) (h2 : ∀ h : k < l.length, ¬ l[k] < m) : lessN l m = k := by
  rcases Nat.lt_trichotomy (lessN l m) k with h | h | h
  · exact absurd (h1 _ h (by omega)) (lessN_at (by omega))
  · exact h
  · have := lessN_le l m
    exact absurd (lessN_lt h (by omega)) (h2 (by omega))
def Asc (l : List Int) : Prop := l.Pairwise fun a b => a < b
theorem insU_asc {l : List Int} (h : Asc l) (m : Int) : Asc (insU l m) ∧ ∀ x, x ∈ insU l m ↔ x ∈ l ∨ x = m := by
  unfold insU
  have hle := lessN_le l m
  have htake : ∀ x ∈ l.take (lessN l m), x < m := by
    intro x hx
    obtain ⟨k, hk, rfl⟩ := List.getElem_of_mem hx
    rw [List.getElem_take]
    have h3 : k < lessN l m := by rw [List.length_take] at hk; omega
    exact lessN_lt h3 (by omega)
  have hdrop : ∀ x ∈ l.drop (lessN l m), m ≤ x := by
    intro x hx
    obtain ⟨k, hk, rfl⟩ := List.getElem_of_mem hx
    rw [List.length_drop] at hk
    rw [List.getElem_drop]
    have h0 := lessN_at (l := l) (m := m) (by omega)
    rcases Nat.eq_zero_or_pos k with rfl | hk0
    · simp only [Nat.add_zero]; omega
    · have := List.pairwise_iff_getElem.1 h (lessN l m) (lessN l m + k) (by omega) (by omega) (by omega)
      omega
  by_cases hc : lessN l m = l.length ∨ l.getD (lessN l m) 0 ≠ m
  · rw [if_pos hc]
    have hdrop2 : ∀ x ∈ l.drop (lessN l m), m < x := by
      intro x hx
      rcases hc with hc | hc
      · rw [hc, List.drop_length] at hx; simp at hx
      · have h1 := hdrop x hx
        obtain ⟨k, hk, rfl⟩ := List.getElem_of_mem hx
        rw [List.length_drop] at hk
        rw [List.getElem_drop] at h1 ⊢
        have hlt : lessN l m < l.length := by omega
        rw [List.getD_eq_getElem?_getD, List.getElem?_eq_getElem hlt, Option.getD_some] at hc
        rcases Nat.eq_zero_or_pos k with rfl | hk0
        · simp only [Nat.add_zero] at h1 ⊢; omega
        · have h0 := lessN_at (l := l) (m := m) hlt
          have := List.pairwise_iff_getElem.1 h (lessN l m) (lessN l m + k) (by omega) (by omega) (by omega)
          omega
    refine ⟨?_, fun x => ?_⟩
    · unfold Asc
      rw [List.pairwise_append, List.pairwise_append]
      refine ⟨⟨h.sublist (List.take_sublist _ _), List.pairwise_singleton _ _, fun a ha b hb => ?_⟩, h.sublist (List.drop_sublist _ _), fun a ha b hb => ?_⟩
      · rw [List.mem_singleton] at hb; subst hb; exact htake a ha
      · rw [List.mem_append, List.mem_singleton] at ha
        have := hdrop2 b hb
        rcases ha with ha | rfl
        · have := htake a ha; omega
        · exact this
    · rw [List.mem_append, List.mem_append, List.mem_singleton]
      have e : x ∈ l ↔ x ∈ l.take (lessN l m) ∨ x ∈ l.drop (lessN l m) := by rw [← List.mem_append, List.take_append_drop]
      rw [e]
      constructor
      · rintro ((h1 | h1) | h1)
        · exact Or.inl (Or.inl h1)
        · exact Or.inr h1
        · exact Or.inl (Or.inr h1)
      · rintro ((h1 | h1) | h1)
        · exact Or.inl (Or.inl h1)
        · exact Or.inr h1
        · exact Or.inl (Or.inr h1)
  · rw [if_neg hc]
    refine ⟨h, fun x => ⟨fun h1 => Or.inl h1, ?_⟩⟩
    rintro (h1 | rfl)
    · exact h1
    · have hlt : lessN l x < l.length := by
        rcases Nat.lt_or_ge (lessN l x) l.length with h1 | h1
        · exact h1
        · exact absurd (Or.inl (by omega)) hc
      have h2 : l.getD (lessN l x) 0 = x := Decidable.byContradiction fun h3 => hc (Or.inr h3)
      rw [List.getD_eq_getElem?_getD, List.getElem?_eq_getElem hlt, Option.getD_some] at h2
      have h3 := List.getElem_mem hlt
      rw [h2] at h3
      exact h3
theorem insU_len (l : List Int) (m : Int) : (insU l m).length ≤ l.length + 1 := by
  unfold insU
  have := lessN_le l m
  split
  · simp; omega
  · omega
/-- All minutes at which something may change. -/
def stpL (M : List Int) : List Int := M.foldl insU []
theorem stpL_snoc (M : List Int) (m : Int) : stpL (M ++ [m]) = insU (stpL M) m := by simp [stpL]
theorem stpL_len (M : List Int) : (stpL M).length ≤ M.length := by
  have key : ∀ (M l : List Int), (M.foldl insU l).length ≤ l.length + M.length := by
    intro M
    induction M with
    | nil => intro l; simp
    | cons m r ih =>
      intro l
      have := ih (insU l m)
      have := insU_len l m
      simp only [List.foldl_cons, List.length_cons]
      omega
  unfold stpL; simpa using key M []
theorem stpL_is (M : List Int) : Asc (stpL M) ∧ ∀ x, x ∈ stpL M ↔ x ∈ M := by
  have key : ∀ (M l : List Int), Asc l → Asc (M.foldl insU l) ∧ ∀ x, x ∈ M.foldl insU l ↔ x ∈ l ∨ x ∈ M := by
    intro M
    induction M with
    | nil => intro l h; exact ⟨h, fun x => by simp⟩
    | cons m r ih =>
      intro l h
      obtain ⟨h1, h2⟩ := insU_asc h m
      obtain ⟨h3, h4⟩ := ih (insU l m) h1
      refine ⟨h3, fun x => ?_⟩
      show x ∈ List.foldl insU (insU l m) r ↔ _
      rw [h4, h2, List.mem_cons, or_assoc]
  obtain ⟨h1, h2⟩ := key M [] List.Pairwise.nil
  exact ⟨h1, fun x => by rw [show stpL M = M.foldl insU [] from rfl, h2]; simp⟩
/-- The windows made of the first minutes at which something may change. -/
def joinB (o : List Rg) (x : Int) : Bool := decide (0 < o.length) && decide ((o.getD (o.length - 1) default).hi + 1 = x)
def cmL (c : Int → Bool) (l : List Int) : Nat → List Rg
  | 0 => []
  | k + 1 => if c (l.getD k 0) = true then (if joinB (cmL c l k) (l.getD k 0) = true then setHi (cmL c l k) (l.getD (k + 1) 0 - 1) else cmL c l k ++ [⟨l.getD k 0, l.getD (k + 1) 0 - 1⟩]) else cmL c l k
structure CmI (c : Int → Bool) (l : List Int) (k : Nat) (o : List Rg) : Prop where
  gap : Gap o
  hi : ∀ u ∈ o, u.hi + 1 ≤ l.getD k 0
  mem : ∀ x, inW o x = true ↔ ∃ i, i < k ∧ l.getD i 0 ≤ x ∧ x < l.getD (i + 1) 0 ∧ c (l.getD i 0) = true
  len : o.length ≤ k
theorem asc_at {l : List Int} (h : Asc l) {i j : Nat} (hij : i < j) (hj : j < l.length) : l.getD i 0 < l.getD j 0 := by
  rw [List.getD_eq_getElem?_getD, List.getD_eq_getElem?_getD, List.getElem?_eq_getElem hj, List.getElem?_eq_getElem (show i < l.length by omega)]
  exact List.pairwise_iff_getElem.1 h i j (by omega) hj hij
theorem cmL_is (c : Int → Bool) {l : List Int} (h : Asc l) : ∀ k, k + 1 ≤ l.length → CmI c l k (cmL c l k)
  | 0, _ => ⟨⟨fun u hu => by simp [cmL] at hu, List.Pairwise.nil⟩, fun u hu => by simp [cmL] at hu, fun x => ⟨fun h => by simp [cmL, inW] at h, by rintro ⟨i, hi, _⟩; omega⟩, by simp [cmL]⟩
  | k + 1, hk => by
    obtain ⟨g, hh, hm, hn⟩ := cmL_is c h k (by omega)
    have hlt : l.getD k 0 < l.getD (k + 1) 0 := asc_at h (by omega) (by omega)
    have memS : ∀ x, (∃ i, i < k + 1 ∧ l.getD i 0 ≤ x ∧ x < l.getD (i + 1) 0 ∧ c (l.getD i 0) = true) ↔ (∃ i, i < k ∧ l.getD i 0 ≤ x ∧ x < l.getD (i + 1) 0 ∧ c (l.getD i 0) = true) ∨ (l.getD k 0 ≤ x ∧ x < l.getD (k + 1) 0 ∧ c (l.getD k 0) = true) := by
      intro x
      constructor
      · rintro ⟨i, hi, h1⟩
        by_cases e : i = k
        · subst e; exact Or.inr h1
        · exact Or.inl ⟨i, by omega, h1⟩
      · rintro (⟨i, hi, h1⟩ | h1)
        · exact ⟨i, by omega, h1⟩
        · exact ⟨k, by omega, h1⟩
    unfold cmL
    by_cases hc : c (l.getD k 0) = true
    · rw [if_pos hc]
      by_cases hj : joinB (cmL c l k) (l.getD k 0) = true
      · rw [if_pos hj]
        unfold joinB at hj
        rw [Bool.and_eq_true, decide_eq_true_eq, decide_eq_true_eq] at hj
        have hne : cmL c l k ≠ [] := List.length_pos_iff.1 hj.1
        obtain ⟨p, r, e⟩ : ∃ p r, cmL c l k = p ++ [r] := ⟨_, _, (List.dropLast_concat_getLast hne).symm⟩
        obtain ⟨a, b⟩ := r
        rw [e] at hj g hh hm hn ⊢
        have eb : b + 1 = l.getD k 0 := by have := hj.2; simpa using this
        rw [setHi_snoc]
        have hab := g.1 ⟨a, b⟩ (by simp)
        dsimp only at hab
        have gp : Gap p ∧ ∀ u ∈ p, u.hi + 1 < a := by
          obtain ⟨g1, g2⟩ := g
          rw [List.pairwise_append] at g2
          exact ⟨⟨fun u hu => g1 u (by simp [hu]), g2.1⟩, fun u hu => g2.2.2 u hu _ (List.mem_singleton.2 rfl)⟩
        refine ⟨gap_snoc gp.1 gp.2 (by omega), fun u hu => ?_, fun x => ?_, by simp at hn ⊢; omega⟩
        · rw [List.mem_append, List.mem_singleton] at hu
          rcases hu with hu | rfl
          · have := hh u (by simp [hu]); omega
          · show l.getD (k + 1) 0 - 1 + 1 ≤ _; omega
        · rw [memS, ← hm x, inW_app, inW_app, Bool.or_eq_true, Bool.or_eq_true, inW_cons, inW_cons]
          simp only [show ∀ x, inW [] x = false from fun x => rfl, Bool.or_false, inB_iff, hc, and_true]
          rw [or_assoc]
          refine or_congr Iff.rfl ?_
          omega
      · rw [if_neg hj]
        have hlow : ∀ u ∈ cmL c l k, u.hi + 1 < l.getD k 0 := by
          intro u hu
          have h1 := hh u hu
          rcases Int.lt_or_eq_of_le h1 with h2 | h2
          · exact h2
          · exfalso
            apply hj
            unfold joinB
            have hpos : 0 < (cmL c l k).length := List.length_pos_iff.2 (List.ne_nil_of_mem hu)
            rw [decide_eq_true hpos, Bool.true_and, decide_eq_true_eq]
            obtain ⟨p, r, e⟩ : ∃ p r, cmL c l k = p ++ [r] := ⟨_, _, (List.dropLast_concat_getLast (List.ne_nil_of_mem hu)).symm⟩
            rw [e] at hu g hh ⊢
            have el : (p ++ [r]).getD ((p ++ [r]).length - 1) default = r := by simp
            rw [el]
            rw [List.mem_append, List.mem_singleton] at hu
            rcases hu with hu | rfl
            · obtain ⟨g1, g2⟩ := g
              rw [List.pairwise_append] at g2
              have := g2.2.2 u hu r (List.mem_singleton.2 rfl)
              have := g1 r (by simp)
              have := hh r (by simp)
              omega
            · exact h2
        refine ⟨gap_snoc g hlow (by omega), fun u hu => ?_, fun x => ?_, by simp; omega⟩
        · rw [List.mem_append, List.mem_singleton] at hu
          rcases hu with hu | rfl
          · have := hh u hu; omega
          · show l.getD (k + 1) 0 - 1 + 1 ≤ _; omega
        · rw [memS, ← hm x, inW_app, Bool.or_eq_true, inW_cons]
          simp only [show ∀ x, inW [] x = false from fun x => rfl, Bool.or_false, inB_iff, hc, and_true]
          refine or_congr Iff.rfl ?_
          omega
    · rw [if_neg hc]
      refine ⟨g, fun u hu => by have := hh u hu; omega, fun x => ?_, by omega⟩
      rw [memS, hm x]
      constructor
      · exact Or.inl
      · rintro (h1 | h1)
        · exact h1
        · exact absurd h1.2.2 hc
/-- The specification's windows are the program's. -/
theorem comb_ref (g : Bool → Bool → Bool) (hg : g false false = false) (LA LB : List Rg) : cmL (fun m => g (inW LA m) (inW LB m)) (stpL (mks (LA ++ LB))) ((stpL (mks (LA ++ LB))).length - 1) = (wof (fun m => g (inW LA m) (inW LB m)) (srt (mks (LA ++ LB)))).1 := by
  obtain ⟨hA, hM⟩ := stpL_is (mks (LA ++ LB))
  obtain ⟨g1, m1, _⟩ := comb_is g hg LA LB
  have endA : Ends LA (stpL (mks (LA ++ LB))) := fun u hu => by
    have := ends_l LA LB u hu
    rw [srt_mem, srt_mem] at this
    rw [hM, hM]; exact this
  have endB : Ends LB (stpL (mks (LA ++ LB))) := fun u hu => by
    have := ends_r LA LB u hu
    rw [srt_mem, srt_mem] at this
    rw [hM, hM]; exact this
  obtain ⟨l, hl⟩ : ∃ l, l = stpL (mks (LA ++ LB)) := ⟨_, rfl⟩
  rw [← hl] at hA endA endB ⊢
  cases l with
  | nil =>
    have e1 : LA = [] := by
      cases LA with
      | nil => rfl
      | cons u r => have := (endA u List.mem_cons_self).1; simp at this
    have e2 : LB = [] := by
      cases LB with
      | nil => rfl
      | cons u r => have := (endB u List.mem_cons_self).1; simp at this
    subst e1 e2
    simp [cmL, wof, srt, mks]
  | cons z R =>
    obtain ⟨k, hk⟩ : ∃ k, k = (z :: R).length - 1 := ⟨_, rfl⟩
    have hk1 : k + 1 = (z :: R).length := by rw [hk]; simp
    rw [← hk]
    have hc := cmL_is (fun m => g (inW LA m) (inW LB m)) hA k (by omega)
    refine gap_uniq hc.gap g1 (fun x => ?_)
    rw [m1, Bool.eq_iff_iff, hc.mem]
    obtain ⟨l, hl2⟩ : ∃ l, l = z :: R := ⟨_, rfl⟩
    rw [← hl2] at hA endA endB hk1 ⊢
    have hat : ∀ y ∈ l, ∃ i, i ≤ k ∧ l.getD i 0 = y := by
      intro y hy
      obtain ⟨i, hi, rfl⟩ := List.getElem_of_mem hy
      exact ⟨i, by omega, by rw [List.getD_eq_getElem?_getD, List.getElem?_eq_getElem hi]; rfl⟩
    have hin : ∀ i, i ≤ k → l.getD i 0 ∈ l := by
      intro i hi
      rw [List.getD_eq_getElem?_getD, List.getElem?_eq_getElem (show i < l.length by omega)]
      exact List.getElem_mem _
    have hmono : ∀ i j, i ≤ j → j ≤ k → l.getD i 0 ≤ l.getD j 0 := by
      intro i j hij hj
      rcases Nat.eq_or_lt_of_le hij with rfl | h1
      · exact Int.le_refl _
      · exact Int.le_of_lt (asc_at hA h1 (by omega))
    have same : ∀ i, i < k → ∀ x, l.getD i 0 ≤ x → x < l.getD (i + 1) 0 → inW LA x = inW LA (l.getD i 0) ∧ inW LB x = inW LB (l.getD i 0) := by
      intro i hi x h1 h2
      have hg2 : ∀ y ∈ l, y ≤ x → y ≤ l.getD i 0 := by
        intro y hy hyx
        obtain ⟨j, hj, rfl⟩ := hat y hy
        rcases Nat.lt_or_ge i j with h3 | h3
        · have := hmono (i + 1) j h3 hj; omega
        · exact hmono j i h3 (by omega)
      exact ⟨inW_cst endA h1 hg2, inW_cst endB h1 hg2⟩
    constructor
    · rintro ⟨i, hi, h1, h2, h3⟩
      obtain ⟨e1, e2⟩ := same i hi x h1 h2
      rw [e1, e2]; exact h3
    · intro hx
      have hlo : l.getD 0 0 ≤ x := by
        rcases Int.lt_or_le x (l.getD 0 0) with h1 | h1
        · exfalso
          have hlow : ∀ y ∈ l, x < y := fun y hy => by obtain ⟨j, hj, rfl⟩ := hat y hy; have := hmono 0 j (by omega) hj; omega
          rw [inW_low endA hlow, inW_low endB hlow, hg] at hx
          cases hx
        · exact h1
      have hhi : x < l.getD k 0 := by
        rcases Int.lt_or_le x (l.getD k 0) with h1 | h1
        · exact h1
        · exfalso
          have htop : ∀ y ∈ l, y ≤ x := fun y hy => by obtain ⟨j, hj, rfl⟩ := hat y hy; have := hmono j k hj (Nat.le_refl _); omega
          rw [inW_top endA htop, inW_top endB htop, hg] at hx
          cases hx
      have key : ∀ j, j ≤ k → x < l.getD j 0 → ∃ i, i < k ∧ l.getD i 0 ≤ x ∧ x < l.getD (i + 1) 0 := by
        intro j
        induction j with
        | zero => intro _ h1; omega
        | succ j ih =>
          intro h1 h2
          rcases Int.lt_or_le x (l.getD j 0) with h3 | h3
          · exact ih (by omega) h3
          · exact ⟨j, by omega, h3, h2⟩
      obtain ⟨i, hi, h1, h2⟩ := key k (Nat.le_refl _) hhi
      obtain ⟨e1, e2⟩ := same i hi x h1 h2
      exact ⟨i, hi, h1, h2, by rw [e1, e2] at hx; exact hx⟩
end Go.Proofs.YtojaompfffpofaaGreat
