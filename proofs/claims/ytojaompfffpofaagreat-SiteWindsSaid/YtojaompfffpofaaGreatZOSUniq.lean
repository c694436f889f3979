import Derived.Test.YtojaompfffpofaaGreatZOSMinM
namespace Go.Proofs.YtojaompfffpofaaGreat
set_option linter.unusedVariables false
set_option linter.unusedSimpArgs false
theorem gap_cons {u : Rg} {r : List Rg} (h : Gap (u :: r)) : u.lo ≤ u.hi ∧ Gap r ∧ ∀ v ∈ r, u.hi + 1 < v.lo :=
  ⟨h.1 u List.mem_cons_self, ⟨fun v hv => h.1 v (List.mem_cons_of_mem _ hv), h.2.of_cons⟩, fun v hv => List.rel_of_pairwise_cons h.2 hv⟩
theorem gap_lo {u v : Rg} {r r' : List Rg} (h : Gap (u :: r)) (h' : Gap (v :: r')) (he : ∀ x, inW (u :: r) x = inW (v :: r') x) : v.lo ≤ u.lo := by
  obtain ⟨a1, a2, a3⟩ := gap_cons h
  obtain ⟨b1, b2, b3⟩ := gap_cons h'
  have : inW (u :: r) u.lo = true := inW_iff.2 ⟨u, List.mem_cons_self, Int.le_refl _, a1⟩
  rw [he] at this
  obtain ⟨w, hw, c1, c2⟩ := inW_iff.1 this
  rcases List.mem_cons.1 hw with rfl | hw
  · exact c1
  · have := b3 w hw; omega
theorem gap_hi {u v : Rg} {r r' : List Rg} (h : Gap (u :: r)) (h' : Gap (v :: r')) (hl : u.lo = v.lo) (he : ∀ x, inW (u :: r) x = inW (v :: r') x) : v.hi ≤ u.hi := by
  obtain ⟨a1, a2, a3⟩ := gap_cons h
  obtain ⟨b1, b2, b3⟩ := gap_cons h'
  rcases Int.lt_or_le u.hi v.hi with h1 | h1
  · exfalso
    have : inW (v :: r') (u.hi + 1) = true := inW_iff.2 ⟨v, List.mem_cons_self, by omega, by omega⟩
    rw [← he] at this
    obtain ⟨w, hw, c1, c2⟩ := inW_iff.1 this
    rcases List.mem_cons.1 hw with rfl | hw
    · omega
    · have := a3 w hw; omega
  · exact h1
theorem inW_cons (u : Rg) (r : List Rg) (x : Int) : inW (u :: r) x = (inB x u.lo u.hi || inW r x) := by simp [inW]
theorem gap_uniq : ∀ {l l' : List Rg}, Gap l → Gap l' → (∀ x, inW l x = inW l' x) → l = l'
  | [], [], _, _, _ => rfl
  | [], v :: r', _, h', he => by
    exfalso
    have := he v.lo
    rw [show inW (v :: r') v.lo = true from inW_iff.2 ⟨v, List.mem_cons_self, Int.le_refl _, (gap_cons h').1⟩] at this
    cases this
  | u :: r, [], h, _, he => by
    exfalso
    have := he u.lo
    rw [show inW (u :: r) u.lo = true from inW_iff.2 ⟨u, List.mem_cons_self, Int.le_refl _, (gap_cons h).1⟩] at this
    cases this
  | u :: r, v :: r', h, h', he => by
    have he' : ∀ x, inW (v :: r') x = inW (u :: r) x := fun x => (he x).symm
    have e1 : u.lo = v.lo := by have := gap_lo h h' he; have := gap_lo h' h he'; omega
    have e2 : u.hi = v.hi := by have := gap_hi h h' e1 he; have := gap_hi h' h e1.symm he'; omega
    have e : u = v := by cases u; cases v; simp at e1 e2; rw [e1, e2]
    subst e
    obtain ⟨a1, a2, a3⟩ := gap_cons h
    obtain ⟨b1, b2, b3⟩ := gap_cons h'
    rw [gap_uniq a2 b2 (fun x => ?_)]
    have := he x
    rw [inW_cons, inW_cons] at this
    rcases Int.lt_or_le u.hi x with h1 | h1
    · have e3 : inB x u.lo u.hi = false := by rw [Bool.eq_false_iff]; intro hh; have := inB_iff.1 hh; omega
      rw [e3] at this; simpa using this
    · have f1 : inW r x = false := by
        rw [Bool.eq_false_iff]; intro hh; obtain ⟨w, hw, c1, c2⟩ := inW_iff.1 hh; have := a3 w hw; omega
      have f2 : inW r' x = false := by
        rw [Bool.eq_false_iff]; intro hh; obtain ⟨w, hw, c1, c2⟩ := inW_iff.1 hh; have := b3 w hw; omega
      rw [f1, f2]
/-- The windows of the minutes from a on that are set, as the specification makes them. -/
def rwL (a : Int) (s : Nat → Bool) : Nat → List Rg
  | 0 => []
  | k + 1 => if s k = true then (if (decide (0 < k) && s (k - 1)) = true then setHi (rwL a s k) (a + (k : Int)) else rwL a s k ++ [⟨a + (k : Int), a + (k : Int)⟩]) else rwL a s k
structure RwI (a : Int) (s : Nat → Bool) (k : Nat) (l : List Rg) : Prop where
  gap : Gap l
  hi : ∀ u ∈ l, a ≤ u.lo ∧ u.hi < a + (k : Int)
  mem : ∀ x, inW l x = (decide (a ≤ x) && decide (x < a + (k : Int)) && s (x - a).toNat)
  last : (decide (0 < k) && s (k - 1)) = true → ∃ i c, l = i ++ [⟨c, a + (k : Int) - 1⟩]
  len : 2 * l.length ≤ k + 1
  len2 : (decide (0 < k) && s (k - 1)) = false → 2 * l.length ≤ k
theorem setHi_snoc (i : List Rg) (c d x : Int) : setHi (i ++ [⟨c, d⟩]) x = i ++ [⟨c, x⟩] := by
  unfold setHi; simp
theorem rwL_is (a : Int) (s : Nat → Bool) : ∀ k, RwI a s k (rwL a s k)
  | 0 => ⟨⟨fun u hu => by simp [rwL] at hu, List.Pairwise.nil⟩, fun u hu => by simp [rwL] at hu, fun x => by
      symm; show _ = false
      by_cases h : a ≤ x
      · rw [decide_eq_false (show ¬ (x < a + ((0 : Nat) : Int)) by simp; omega)]; simp
      · rw [decide_eq_false h]; simp, fun h => by simp at h, by simp [rwL], fun _ => by simp [rwL]⟩
  | k + 1 => by
    obtain ⟨g, hh, hm, hl, hn, hn2⟩ := rwL_is a s k
    have mem0 : ∀ x, (decide (a ≤ x) && decide (x < a + ((k + 1 : Nat) : Int)) && s (x - a).toNat) = ((decide (a ≤ x) && decide (x < a + (k : Int)) && s (x - a).toNat) || (decide (x = a + (k : Int)) && s k)) := by
      intro x
      by_cases h1 : x = a + (k : Int)
      · subst h1
        rw [decide_eq_true (show a ≤ a + (k : Int) by omega), decide_eq_true (show a + (k : Int) < a + ((k + 1 : Nat) : Int) by omega), decide_eq_false (show ¬ (a + (k : Int) < a + (k : Int)) by omega), show (a + (k : Int) - a).toNat = k by omega]
        simp
      · have : decide (x < a + ((k + 1 : Nat) : Int)) = decide (x < a + (k : Int)) := by rw [Bool.eq_iff_iff, decide_eq_true_eq, decide_eq_true_eq]; omega
        rw [this, decide_eq_false h1]; simp
    unfold rwL
    by_cases hs : s k = true
    · rw [if_pos hs]
      by_cases hp : (decide (0 < k) && s (k - 1)) = true
      · rw [if_pos hp]
        obtain ⟨i, c, e⟩ := hl hp
        rw [e, setHi_snoc]
        rw [e] at g hh hm hn
        have hc := hh ⟨c, a + (k : Int) - 1⟩ (by simp)
        have hcl := g.1 ⟨c, a + (k : Int) - 1⟩ (by simp)
        have gi : Gap i ∧ ∀ u ∈ i, u.hi + 1 < c := by
          obtain ⟨g1, g2⟩ := g
          rw [List.pairwise_append] at g2
          exact ⟨⟨fun u hu => g1 u (by simp [hu]), g2.1⟩, fun u hu => g2.2.2 u hu _ (List.mem_singleton.2 rfl)⟩
        refine ⟨gap_snoc gi.1 gi.2 (by dsimp only at hcl; omega), fun u hu => ?_, fun x => ?_, fun _ => ⟨i, c, by congr 3; omega⟩, by simp at hn ⊢; omega, fun h => by simp [hs] at h⟩
        · rw [List.mem_append] at hu
          rcases hu with hu | hu
          · have := hh u (by simp [hu]); omega
          · rw [List.mem_singleton] at hu; subst hu; dsimp only at hc ⊢; omega
        · rw [mem0, ← hm x, inW_app, inW_app, Bool.or_assoc]
          congr 1
          rw [inW_cons, inW_cons]
          simp only [show ∀ x, inW [] x = false from fun x => rfl, Bool.or_false, hs, Bool.and_true]
          dsimp only at hcl
          rw [Bool.eq_iff_iff, Bool.or_eq_true, inB_iff, inB_iff, decide_eq_true_eq]
          omega
      · rw [if_neg hp]
        have hp2 : (decide (0 < k) && s (k - 1)) = false := by simpa using hp
        have hlow : ∀ u ∈ rwL a s k, u.hi + 1 < a + (k : Int) := by
          intro u hu
          have h1 := hh u hu
          have h2 := g.1 u hu
          rcases Int.lt_or_le (u.hi + 1) (a + (k : Int)) with h3 | h3
          · exact h3
          · exfalso
            have h4 : u.hi = a + (k : Int) - 1 := by omega
            have h5 : inW (rwL a s k) u.hi = true := inW_iff.2 ⟨u, hu, h2, Int.le_refl _⟩
            rw [hm, Bool.and_eq_true, Bool.and_eq_true] at h5
            have h6 : 0 < k := by omega
            rw [decide_eq_true h6, show k - 1 = (u.hi - a).toNat by omega, h5.2] at hp2
            cases hp2
        refine ⟨gap_snoc g hlow (by omega), fun u hu => ?_, fun x => ?_, fun _ => ⟨_, a + (k : Int), by congr 3; omega⟩, ?_, fun h => by simp [hs] at h⟩
        · rw [List.mem_append] at hu
          rcases hu with hu | hu
          · have := hh u hu; omega
          · rw [List.mem_singleton] at hu; subst hu; dsimp only; omega
        · rw [mem0, ← hm x, inW_app]
          congr 1
          rw [inW_cons]
          simp only [show ∀ x, inW [] x = false from fun x => rfl, Bool.or_false, hs, Bool.and_true]
          rw [Bool.eq_iff_iff, inB_iff, decide_eq_true_eq]
          omega
        · have := hn2 hp2; simp; omega
    · rw [if_neg hs]
      have hs2 : s k = false := by simpa using hs
      refine ⟨g, fun u hu => by have := hh u hu; omega, fun x => ?_, fun h => by simp [hs2] at h, by omega, fun _ => ?_⟩
      · rw [mem0, ← hm x, hs2]; simp
      · omega
/-- The minutes from one on, as many as are wanted. -/
def mins (a : Int) (n : Nat) : List Int := (List.range n).map fun (k : Nat) => a + (k : Int)
theorem mins_len (a : Int) (n : Nat) : (mins a n).length = n := by simp [mins]
theorem mins_succ (a : Int) (n : Nat) : mins a (n + 1) = mins a n ++ [a + (n : Int)] := by simp [mins, List.range_succ]
theorem mins_mem {a : Int} {n : Nat} {x : Int} : x ∈ mins a n ↔ a ≤ x ∧ x < a + (n : Int) := by
  unfold mins
  rw [List.mem_map]
  constructor
  · rintro ⟨k, hk, rfl⟩; rw [List.mem_range] at hk; omega
  · intro h; exact ⟨(x - a).toNat, by rw [List.mem_range]; omega, by omega⟩
theorem mins_sorted (a : Int) : ∀ n, (mins a n).Pairwise (fun x y => x ≤ y)
  | 0 => by simp [mins]
  | n + 1 => by
    rw [mins_succ, List.pairwise_append]
    refine ⟨mins_sorted a n, List.pairwise_singleton _ _, fun x hx y hy => ?_⟩
    rw [List.mem_singleton] at hy; subst hy
    have := (mins_mem.1 hx).2; omega
/-- A condition of the minutes of a span. -/
def spnF (b : Int) (g : Int → Bool) (m : Int) : Bool := decide (m ≤ b) && g m
theorem wof_span (a b : Int) (g : Int → Bool) (n : Nat) (hn : (n : Int) = b - a + 1) : (wof (spnF b g) (mins a (n + 1))).1 = rwL a (fun k => g (a + (k : Int))) n := by
  have hab : a ≤ b + 1 := by omega
  -- ahead of the span the condition may hold: the marks alone are asked
  have key : (wof (spnF b g) (mins a (n + 1))).1 = (wof (fun m => decide (a ≤ m) && spnF b g m) (mins a (n + 1))).1 := by
    have e : ∀ (M : List Int) (s : List Rg × Bool), (∀ m ∈ M, a ≤ m) → M.foldl (wst (spnF b g)) s = M.foldl (wst (fun m => decide (a ≤ m) && spnF b g m)) s := by
      intro M
      induction M with
      | nil => intro s _; rfl
      | cons m R ih =>
        intro s hM
        have h1 : wst (spnF b g) s m = wst (fun m => decide (a ≤ m) && spnF b g m) s m := by
          unfold wst; simp only [decide_eq_true (hM m List.mem_cons_self), Bool.true_and]
        rw [List.foldl_cons, List.foldl_cons, h1]
        exact ih _ (fun x hx => hM x (List.mem_cons_of_mem _ hx))
    unfold wof
    rw [e _ _ (fun m hm => (mins_mem.1 hm).1)]
  rw [key]
  obtain ⟨g1, m1, _⟩ := wof_is (f := fun m => decide (a ≤ m) && spnF b g m) (mins_sorted a (n + 1)) (cst_of (mins_sorted a (n + 1)) (fun z x hz hzx hy => by
      by_cases hx : x ≤ b + 1
      · have := hy x (mins_mem.2 ⟨by have := (mins_mem.1 hz).1; omega, by omega⟩) (Int.le_refl _)
        rw [show x = z by omega]
      · have h2 := hy (b + 1) (mins_mem.2 ⟨by omega, by omega⟩) (by omega)
        unfold spnF
        rw [decide_eq_false (show ¬ x ≤ b by omega), decide_eq_false (show ¬ z ≤ b by omega)]; simp)) (fun x hx => by
      have := hx a (mins_mem.2 ⟨by omega, by omega⟩)
      rw [decide_eq_false (by omega)]; simp) (fun z hz hy => by
      have := hy (b + 1) (mins_mem.2 ⟨by omega, by omega⟩)
      unfold spnF
      rw [decide_eq_false (show ¬ z ≤ b by omega)]; simp)
  have hr := rwL_is a (fun k => g (a + (k : Int))) n
  refine gap_uniq g1 hr.gap (fun x => ?_)
  rw [m1, hr.mem]
  unfold spnF
  by_cases h1 : a ≤ x
  · rw [decide_eq_true h1, show a + (((x - a).toNat : Nat) : Int) = x by omega]
    have : decide (x ≤ b) = decide (x < a + (n : Int)) := by rw [Bool.eq_iff_iff, decide_eq_true_eq, decide_eq_true_eq]; omega
    rw [this]; simp
  · rw [decide_eq_false h1]; simp
end Go.Proofs.YtojaompfffpofaaGreat
