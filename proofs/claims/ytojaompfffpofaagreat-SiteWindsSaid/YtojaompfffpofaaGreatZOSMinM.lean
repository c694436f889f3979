import Derived.Test.YtojaompfffpofaaGreatZOSComb
namespace Go.Proofs.YtojaompfffpofaaGreat
set_option linter.unusedVariables false
set_option linter.unusedSimpArgs false
/-- Windows with gaps between them. -/
def Gap (l : List Rg) : Prop := (∀ u ∈ l, u.lo ≤ u.hi) ∧ l.Pairwise fun u v => u.hi + 1 < v.lo
theorem inW_iff {L : List Rg} {x : Int} : inW L x = true ↔ ∃ u ∈ L, u.lo ≤ x ∧ x ≤ u.hi := by
  unfold inW
  rw [List.any_eq_true]
  constructor
  · rintro ⟨u, hu, h⟩; exact ⟨u, hu, inB_iff.1 h⟩
  · rintro ⟨u, hu, h⟩; exact ⟨u, hu, inB_iff.2 h⟩
theorem inW_app (L M : List Rg) (x : Int) : inW (L ++ M) x = (inW L x || inW M x) := by unfold inW; rw [List.any_append]
/-- The condition is the same between two marks. -/
def Cst (f : Int → Bool) : List Int → Prop
  | [] => True
  | z :: R => (∀ x, z ≤ x → (∀ y ∈ R, x < y) → f x = f z) ∧ Cst f R
/-- What holds of the windows behind a mark. -/
structure WInv (f : Int → Bool) (l : List Rg) (o : Bool) (z : Int) (n : Nat) : Prop where
  fz : f z = o
  cnt : 2 * l.length ≤ n + (if o = true then 1 else 0)
  shut : o = false → Gap l ∧ (∀ u ∈ l, u.hi < z ∧ f (u.hi + 1) = false) ∧ (∀ x, x < z → f x = inW l x)
  opn : o = true → ∃ i a, l = i ++ [⟨a, 0⟩] ∧ Gap i ∧ (∀ u ∈ i, u.hi < z ∧ f (u.hi + 1) = false ∧ u.hi + 1 < a) ∧ a ≤ z ∧ (∀ x, x < z → f x = (inW i x || decide (a ≤ x)))
theorem gap_snoc {l : List Rg} {a b : Int} (h : Gap l) (hl : ∀ u ∈ l, u.hi + 1 < a) (hab : a ≤ b) : Gap (l ++ [⟨a, b⟩]) := by
  refine ⟨fun u hu => ?_, ?_⟩
  · rw [List.mem_append] at hu
    rcases hu with hu | hu
    · exact h.1 u hu
    · rw [List.mem_singleton] at hu; subst hu; exact hab
  · rw [List.pairwise_append]
    exact ⟨h.2, List.pairwise_singleton _ _, fun u hu v hv => by rw [List.mem_singleton] at hv; subst hv; exact hl u hu⟩
theorem winv_step {f : Int → Bool} {l : List Rg} {o : Bool} {z m : Int} {n : Nat} (h : WInv f l o z n) (hzm : z ≤ m) (hC : ∀ x, z ≤ x → x < m → f x = f z) : WInv f (wst f (l, o) m).1 (wst f (l, o) m).2 m (n + 1) := by
  have hc := h.cnt
  cases o with
  | false =>
    obtain ⟨g, hu, hx⟩ := h.shut rfl
    have fx : ∀ x, x < m → f x = inW l x := by
      intro x hxm
      by_cases e : x < z
      · exact hx x e
      · rw [hC x (by omega) hxm, h.fz]
        symm
        rw [Bool.eq_false_iff]
        intro hh
        obtain ⟨u, hu2, a1, a2⟩ := inW_iff.1 hh
        have := (hu u hu2).1
        omega
    cases hm : f m with
    | false =>
      have e : wst f (l, false) m = (l, false) := by unfold wst; rw [hm]; simp
      rw [e]
      refine ⟨hm, by simp at hc ⊢; omega, fun _ => ⟨g, fun u hu2 => ⟨by have := (hu u hu2).1; omega, (hu u hu2).2⟩, fx⟩, fun h => by cases h⟩
    | true =>
      have e : wst f (l, false) m = (l ++ [⟨m, 0⟩], true) := by unfold wst; rw [hm]; simp
      rw [e]
      refine ⟨hm, by simp at hc ⊢; omega, (fun h => by cases h), fun _ => ⟨l, m, rfl, g, fun u hu2 => ?_, Int.le_refl _, fun x hxm => ?_⟩⟩
      · obtain ⟨a1, a2⟩ := hu u hu2
        refine ⟨by omega, a2, ?_⟩
        have : u.hi + 1 ≠ m := fun e => by rw [e, hm] at a2; cases a2
        omega
      · rw [fx x hxm, decide_eq_false (by omega)]; simp
  | true =>
    obtain ⟨i, a, rfl, g, hu, haz, hx⟩ := h.opn rfl
    have fx : ∀ x, x < m → f x = (inW i x || decide (a ≤ x)) := by
      intro x hxm
      by_cases e : x < z
      · exact hx x e
      · rw [hC x (by omega) hxm, h.fz, decide_eq_true (show a ≤ x by omega)]; simp
    cases hm : f m with
    | true =>
      have e : wst f (i ++ [⟨a, 0⟩], true) m = (i ++ [⟨a, 0⟩], true) := by unfold wst; rw [hm]; simp
      rw [e]
      exact ⟨hm, by simp at hc ⊢; omega, (fun h => by cases h), fun _ => ⟨i, a, rfl, g, fun u hu2 => ⟨by have := (hu u hu2).1; omega, (hu u hu2).2⟩, by omega, fx⟩⟩
    | false =>
      have hlt : z < m := by
        rcases Int.lt_or_le z m with h1 | h1
        · exact h1
        · have : z = m := by omega
          rw [← this, h.fz] at hm; cases hm
      have e : wst f (i ++ [⟨a, 0⟩], true) m = (i ++ [⟨a, m - 1⟩], false) := by
        unfold wst setHi; rw [hm]
        simp
      rw [e]
      refine ⟨hm, by simp at hc ⊢; omega, fun _ => ⟨gap_snoc g (fun u hu2 => (hu u hu2).2.2) (by omega), fun u hu2 => ?_, fun x hxm => ?_⟩, fun h => by cases h⟩
      · rw [List.mem_append] at hu2
        rcases hu2 with hu2 | hu2
        · exact ⟨by have := (hu u hu2).1; omega, (hu u hu2).2.1⟩
        · rw [List.mem_singleton] at hu2; subst hu2; exact ⟨by show m - 1 < m; omega, by show f (m - 1 + 1) = false; rw [show m - 1 + 1 = m by omega]; exact hm⟩
      · rw [fx x hxm, inW_app]
        congr 1
        rw [Bool.eq_iff_iff, inW_iff, decide_eq_true_eq]
        constructor
        · intro h1; exact ⟨_, List.mem_singleton.2 rfl, h1, by show x ≤ m - 1; omega⟩
        · rintro ⟨u, hu2, h1, h2⟩; rw [List.mem_singleton] at hu2; subst hu2; exact h1
theorem winv_run {f : Int → Bool} : ∀ (R : List Int) (l : List Rg) (o : Bool) (z : Int) (n : Nat), WInv f l o z n → (z :: R).Pairwise (fun a b => a ≤ b) → Cst f (z :: R) → ∃ z', WInv f (R.foldl (wst f) (l, o)).1 (R.foldl (wst f) (l, o)).2 z' (n + R.length) ∧ (∀ x, z' ≤ x → f x = f z') ∧ (z' ∈ z :: R) ∧ ∀ y ∈ z :: R, y ≤ z'
  | [], l, o, z, n, h, _, hC => ⟨z, h, fun x hx => hC.1 x hx (fun y hy => by simp at hy), List.mem_singleton.2 rfl, fun y hy => by rw [List.mem_singleton] at hy; omega⟩
  | m :: R, l, o, z, n, h, hs, hC => by
    have hzm : z ≤ m := List.rel_of_pairwise_cons hs (List.mem_cons_self)
    have hs2 : (m :: R).Pairwise (fun a b => a ≤ b) := hs.of_cons
    have hmR : ∀ y ∈ R, m ≤ y := fun y hy => List.rel_of_pairwise_cons hs2 hy
    have h1 := winv_step h hzm (fun x hx1 hx2 => hC.1 x hx1 (fun y hy => by
      rcases List.mem_cons.1 hy with rfl | hy
      · exact hx2
      · have := hmR y hy; omega))
    obtain ⟨z', a1, a2, a3, a4⟩ := winv_run R _ _ m (n + 1) h1 hs2 hC.2
    refine ⟨z', ?_, a2, List.mem_cons_of_mem _ a3, fun y hy => ?_⟩
    · have e : n + 1 + R.length = n + (m :: R).length := by simp; omega
      rw [← e]
      exact a1
    · rcases List.mem_cons.1 hy with rfl | hy
      · have := a4 m (List.mem_cons_self); omega
      · exact a4 y hy
/-- The windows are those of the condition, with gaps. -/
theorem wof_is {f : Int → Bool} {M : List Int} (hs : M.Pairwise (fun a b => a ≤ b)) (hC : Cst f M) (h0 : ∀ x, (∀ y ∈ M, x < y) → f x = false) (h1 : ∀ z ∈ M, (∀ y ∈ M, y ≤ z) → f z = false) : Gap (wof f M).1 ∧ (∀ x, inW (wof f M).1 x = f x) ∧ 2 * (wof f M).1.length ≤ M.length := by
  cases M with
  | nil => exact ⟨⟨fun u hu => by simp [wof] at hu, by simp [wof]⟩, fun x => by rw [h0 x (fun y hy => by simp at hy)]; rfl, by simp [wof]⟩
  | cons m R =>
    have hb : ∀ x, x < m → f x = false := fun x hx => h0 x (fun y hy => by
      rcases List.mem_cons.1 hy with rfl | hy
      · exact hx
      · have := List.rel_of_pairwise_cons hs hy; omega)
    have start : WInv f (wst f ([], false) m).1 (wst f ([], false) m).2 m 1 := by
      cases hm : f m with
      | false =>
        have e : wst f ([], false) m = ([], false) := by unfold wst; rw [hm]; simp
        rw [e]
        exact ⟨hm, by simp, fun _ => ⟨⟨fun u hu => by simp at hu, List.Pairwise.nil⟩, fun u hu => by simp at hu, fun x hx => by rw [hb x hx]; rfl⟩, fun h => by cases h⟩
      | true =>
        have e : wst f ([], false) m = ([⟨m, 0⟩], true) := by unfold wst; rw [hm]; simp
        rw [e]
        exact ⟨hm, by simp, (fun h => by cases h), fun _ => ⟨[], m, rfl, ⟨fun u hu => by simp at hu, List.Pairwise.nil⟩, fun u hu => by simp at hu, Int.le_refl _, fun x hx => by rw [hb x hx, decide_eq_false (by omega)]; rfl⟩⟩
    obtain ⟨z, a1, a2, a3, a4⟩ := winv_run R _ _ m 1 start hs hC
    replace a1 : WInv f (R.foldl (wst f) (wst f ([], false) m)).1 (R.foldl (wst f) (wst f ([], false) m)).2 z (1 + R.length) := a1
    have hfz := h1 z a3 a4
    have ho : (R.foldl (wst f) (wst f ([], false) m)).2 = false := by rw [← a1.fz]; exact hfz
    have e : wof f (m :: R) = R.foldl (wst f) (wst f ([], false) m) := rfl
    rw [e]
    obtain ⟨g, hu, hx⟩ := a1.shut ho
    refine ⟨g, fun x => ?_, ?_⟩
    · by_cases hxz : x < z
      · exact (hx x hxz).symm
      · rw [a2 x (by omega), hfz, Bool.eq_false_iff]
        intro hh
        obtain ⟨u, hu2, b1, b2⟩ := inW_iff.1 hh
        have := (hu u hu2).1
        omega
    · have := a1.cnt
      rw [ho] at this
      simp at this ⊢
      omega
theorem cst_of {f : Int → Bool} {M : List Int} (hs : M.Pairwise (fun a b => a ≤ b)) (h : ∀ z x, z ∈ M → z ≤ x → (∀ y ∈ M, y ≤ x → y ≤ z) → f x = f z) : Cst f M := by
  have key : ∀ (R P : List Int), M = P ++ R → Cst f R := by
    intro R
    induction R with
    | nil => intro P _; trivial
    | cons z R ih =>
      intro P hP
      refine ⟨fun x hzx hR => ?_, ih (P ++ [z]) (by rw [hP]; simp)⟩
      refine h z x (by rw [hP]; simp) hzx (fun y hy hyx => ?_)
      rw [hP] at hy hs
      rcases List.mem_append.1 hy with hy | hy
      · exact (List.pairwise_append.1 hs).2.2 y hy z (List.mem_cons_self)
      · rcases List.mem_cons.1 hy with rfl | hy
        · exact Int.le_refl _
        · have := hR y hy; omega
  exact key M [] rfl
end Go.Proofs.YtojaompfffpofaaGreat
