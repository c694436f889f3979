import Derived.Test.YtijdphlejokijaaGreatERSENp
import Derived.Outline
namespace Go.Proofs.YtijdphlejokijaaGreat
set_option linter.unusedVariables false
def rvS (p : Int × Int) (v t : Int) : Int × Int := if p.1 < v then (v, t) else p
def rwS (p : Int × Int) (v t : Int) : Int × Int := if p.2 < 0 ∨ p.1 < v then (v, t) else p
def rvG (f : Int × Int → Int → Int → Int × Int) (gF : Nat → Nat) (vF sF : Nat → Int) (n : Nat) : Nat → List (Int × Int)
  | 0 => List.replicate n (0, -1)
  | i + 1 => (rvG f gF vF sF n i).set (gF i) (f ((rvG f gF vF sF n i).getD (gF i) (0, -1)) (vF i) (sF i))
section
variable {f : Int × Int → Int → Int → Int × Int} {gF : Nat → Nat} {vF sF : Nat → Int} {n N : Nat}
theorem rvG_len : ∀ i, (rvG f gF vF sF n i).length = n
  | 0 => by simp [rvG]
  | i + 1 => by simp [rvG, rvG_len i]
theorem rvG_eq {i : Nat} (h : gF i < n) : (rvG f gF vF sF n (i + 1)).getD (gF i) (0, -1) = f ((rvG f gF vF sF n i).getD (gF i) (0, -1)) (vF i) (sF i) := by
  show ((rvG f gF vF sF n i).set (gF i) _).getD (gF i) (0, -1) = _
  rw [List.getD_eq_getElem?_getD, List.getElem?_set_self (by rw [rvG_len]; exact h)]
  rfl
theorem rvG_ne {i g : Nat} (h : gF i ≠ g) : (rvG f gF vF sF n (i + 1)).getD g (0, -1) = (rvG f gF vF sF n i).getD g (0, -1) := by
  show ((rvG f gF vF sF n i).set (gF i) _).getD g (0, -1) = _
  rw [List.getD_eq_getElem?_getD, List.getElem?_set_ne h, ← List.getD_eq_getElem?_getD]
theorem rvG_0 {g : Nat} : (rvG f gF vF sF n 0).getD g (0, -1) = (0, -1) := by
  show (List.replicate n ((0 : Int), (-1 : Int))).getD g (0, -1) = _
  rw [List.getD_eq_getElem?_getD, List.getElem?_replicate]
  split <;> rfl
theorem set_same {α : Type} {l : List α} {g : Nat} {d : α} (h : g < l.length) : l.set g (l.getD g d) = l := by
  rw [List.getD_eq_getElem?_getD, List.getElem?_eq_getElem h]
  exact List.set_getElem_self h
theorem rv_rel (hg : ∀ i, i < N → gF i < n) (hv : ∀ i, i < N → 0 ≤ vF i) (hs : ∀ i, i < N → 0 ≤ sF i) : ∀ i, i ≤ N → ∀ g, g < n →
    ((rvG rvS gF vF sF n i).getD g (0, -1) = (rvG rwS gF vF sF n i).getD g (0, -1) ∧ (((rvG rwS gF vF sF n i).getD g (0, -1)).2 < 0 → (rvG rwS gF vF sF n i).getD g (0, -1) = (0, -1) ∧ ∀ j, j < i → gF j ≠ g)) ∨
    ((rvG rvS gF vF sF n i).getD g (0, -1) = (0, -1) ∧ ((rvG rwS gF vF sF n i).getD g (0, -1)).1 = 0 ∧ 0 ≤ ((rvG rwS gF vF sF n i).getD g (0, -1)).2 ∧ (∃ j, j < i ∧ gF j = g) ∧ ∀ j, j < i → gF j = g → vF j = 0)
  | 0, _, g, _ => by
    rw [rvG_0, rvG_0]
    exact Or.inl ⟨rfl, fun _ => ⟨rfl, fun j hj => by omega⟩⟩
  | i + 1, hi, g, hgn => by
    have ih := rv_rel hg hv hs i (by omega) g hgn
    have v0 := hv i (by omega)
    have s0 := hs i (by omega)
    by_cases e : gF i = g
    · subst e
      rw [rvG_eq hgn, rvG_eq hgn]
      rcases ih with ⟨h1, h2⟩ | ⟨h1, h2, h3, ⟨j, hj, hjg⟩, h5⟩
      · rw [h1]
        generalize (rvG rwS gF vF sF n i).getD (gF i) (0, -1) = r at h2 ⊢
        by_cases hr : r.2 < 0
        · obtain ⟨rfl, h3⟩ := h2 hr
          unfold rvS rwS
          by_cases hz : (0 : Int) < vF i
          · left
            simp only [hz, if_true, or_true]
            exact ⟨trivial, fun h => by omega⟩
          · right
            have hv0 : vF i = 0 := by omega
            simp only [hv0, Int.lt_irrefl, if_false, or_false]
            refine ⟨trivial, ?_, ?_, ⟨i, by omega, rfl⟩, fun j hj hjg => ?_⟩
            · simp
            · simp; exact s0
            · rcases Nat.lt_or_ge j i with h | h
              · exact absurd hjg (h3 j h)
              · rw [show j = i by omega]; exact hv0
        · left
          unfold rvS rwS
          by_cases hz : r.1 < vF i
          · simp only [hz, if_true, or_true]
            exact ⟨trivial, fun h => by omega⟩
          · simp only [hz, hr, if_false, or_self]
            exact ⟨trivial, fun h => h.elim⟩
      · rw [h1]
        generalize (rvG rwS gF vF sF n i).getD (gF i) (0, -1) = r at h2 h3 ⊢
        unfold rvS rwS
        have hr : ¬ r.2 < 0 := by omega
        by_cases hz : (0 : Int) < vF i
        · left
          have hz2 : r.1 < vF i := by omega
          simp only [hz, hz2, if_true, or_true]
          exact ⟨trivial, fun h => by omega⟩
        · right
          have hv0 : vF i = 0 := by omega
          have hz2 : ¬ r.1 < 0 := by omega
          simp only [hv0, hr, hz2, Int.lt_irrefl, if_false, or_self]
          refine ⟨trivial, h2, h3, ⟨i, by omega, rfl⟩, fun j hj hjg => ?_⟩
          rcases Nat.lt_or_ge j i with h | h
          · exact h5 j h hjg
          · rw [show j = i by omega]; exact hv0
    · rw [rvG_ne e, rvG_ne e]
      rcases ih with ⟨h1, h2⟩ | ⟨h1, h2, h3, ⟨j, hj, hjg⟩, h5⟩
      · exact Or.inl ⟨h1, fun h => ⟨(h2 h).1, fun j hj => by
          rcases Nat.lt_or_ge j i with h' | h'
          · exact (h2 h).2 j h'
          · rw [show j = i by omega]; exact e⟩⟩
      · exact Or.inr ⟨h1, h2, h3, ⟨j, by omega, hjg⟩, fun j hj hjg => by
          rcases Nat.lt_or_ge j i with h' | h'
          · exact h5 j h' hjg
          · rw [show j = i by omega] at hjg; exact absurd hjg e⟩
/-- At the end both are the same, if each gas that is breathed is needed once. -/
theorem rv_eq (hg : ∀ i, i < N → gF i < n) (hv : ∀ i, i < N → 0 ≤ vF i) (hs : ∀ i, i < N → 0 ≤ sF i) (hp : ∀ i, i < N → ∃ j, j < N ∧ gF j = gF i ∧ 0 < vF j) : rvG rwS gF vF sF n N = rvG rvS gF vF sF n N := by
  refine List.ext_getElem (by rw [rvG_len, rvG_len]) fun g h1 h2 => ?_
  rw [rvG_len] at h1
  have h := rv_rel hg hv hs N (Nat.le_refl _) g h1
  have e1 : ∀ f, (rvG f gF vF sF n N).getD g (0, -1) = (rvG f gF vF sF n N)[g]'(by rw [rvG_len]; exact h1) := fun f => by
    rw [List.getD_eq_getElem?_getD, List.getElem?_eq_getElem (by rw [rvG_len]; exact h1)]; rfl
  rw [e1, e1] at h
  rcases h with ⟨h, _⟩ | ⟨_, _, _, ⟨j, hj, hjg⟩, h5⟩
  · exact h.symm
  · obtain ⟨k, hk, hkg, hkv⟩ := hp j hj
    have := h5 k hk (hkg.trans hjg)
    omega
/-- What is kept is the greatest need of a gas, and the first second of it. -/
theorem rv_char (hg : ∀ i, i < N → gF i < n) : ∀ i, i ≤ N → ∀ g, g < n →
    0 ≤ ((rvG rvS gF vF sF n i).getD g (0, -1)).1 ∧ (∀ j, j < i → gF j = g → vF j ≤ ((rvG rvS gF vF sF n i).getD g (0, -1)).1) ∧
    (0 < ((rvG rvS gF vF sF n i).getD g (0, -1)).1 → ∃ k, k < i ∧ gF k = g ∧ vF k = ((rvG rvS gF vF sF n i).getD g (0, -1)).1 ∧ sF k = ((rvG rvS gF vF sF n i).getD g (0, -1)).2 ∧ ∀ j, j < k → gF j = g → vF j < ((rvG rvS gF vF sF n i).getD g (0, -1)).1)
  | 0, _, g, _ => by
    rw [rvG_0]
    exact ⟨by simp, fun j hj => by omega, fun h => by simp at h⟩
  | i + 1, hi, g, hgn => by
    obtain ⟨i1, i2, i3⟩ := rv_char hg i (by omega) g hgn
    by_cases e : gF i = g
    · subst e
      rw [rvG_eq hgn]
      generalize (rvG rvS gF vF sF n i).getD (gF i) (0, -1) = r at i1 i2 i3 ⊢
      unfold rvS
      by_cases hz : r.1 < vF i
      · simp only [hz, if_true]
        refine ⟨by omega, fun j hj hjg => ?_, fun _ => ⟨i, by omega, rfl, rfl, rfl, fun j hj hjg => ?_⟩⟩
        · rcases Nat.lt_or_ge j i with h | h
          · have := i2 j h hjg; omega
          · rw [show j = i by omega]; exact Int.le_refl _
        · have := i2 j hj hjg; omega
      · simp only [hz, if_false]
        refine ⟨i1, fun j hj hjg => ?_, fun h => ?_⟩
        · rcases Nat.lt_or_ge j i with h | h
          · exact i2 j h hjg
          · rw [show j = i by omega]; omega
        · obtain ⟨k, k1, k2⟩ := i3 h
          exact ⟨k, by omega, k2⟩
    · rw [rvG_ne e]
      refine ⟨i1, fun j hj hjg => ?_, fun h => ?_⟩
      · rcases Nat.lt_or_ge j i with h | h
        · exact i2 j h hjg
        · rw [show j = i by omega] at hjg; exact absurd hjg e
      · obtain ⟨k, k1, k2⟩ := i3 h
        exact ⟨k, by omega, k2⟩
end
theorem upE_pos {n d : Int} (n1 : 1 ≤ n) (d1 : 1 ≤ d) : 1 ≤ upE n d := by
  unfold upE
  exact (Int.le_ediv_iff_mul_le (by omega)).2 (by omega)
theorem brV_pos {x : Pl} {b : Int} (h : PlOk x) (b0 : 1 ≤ b) : 1 ≤ brV x b := by
  have h1 := h.s
  have h2 := h.d
  have h3 := h.bd
  have h4 := h.su
  unfold brV
  refine upE_pos ?_ (by omega)
  have : 0 < b * (x.su + x.bd + (x.su + x.d)) * x.s := Int.mul_pos (Int.mul_pos (by omega) (by omega)) (by omega)
  omega
section
variable {nm : ByteArray} {s : Int} {G : List Ga} {D : List Le} {T : List Ox} {r : Ru}
theorem need_ge (h : PlnOk nm s G D) (hr : RuOk T r) (hS : secT D D.length ≤ 20000) {t : Int} (h0 : 0 < D.length) (t0 : 0 ≤ t) (ht : t ≤ secT D D.length) :
    0 ≤ ndV r s G D t ∧ (t = secT D (lgN D t + 1) → 1 ≤ ndV r s G D t) := by
  obtain ⟨a1, a2, a3⟩ := lgN_is h h0 ht
  have a4 := lgN_beg h h0 t0 ht
  have hp := legK_ok h a1
  have hs : (legK s G D (lgN D t)).s = D[lgN D t].s := by show (D.getD _ default).s = _; rw [getD_leE]
  have hsh := leg_short h hS (lgN D t)
  have e1 := secT_succ a1
  have hA := (conA_snocL r.br (legC s G D) G.length (lgN D t) (List.range (lgN D t)) (by simp)).2 (legC_ok h) hr.br.1 hr.br.2 (ndG s G D t)
  unfold ndV
  rw [legC_is a1] at hsh ⊢
  unfold nedV
  have hq0 : 0 ≤ t - secT D (lgN D t) := by omega
  have hq1 : t - secT D (lgN D t) ≤ (legK s G D (lgN D t)).s := by omega
  have hb := binV_bd hp hr.br.1 hr.br.2 hq0 hq1 hsh
  have hdp := dep_bd hp hq0 hq1
  have hsu : (legK s G D (lgN D t)).su = s := rfl
  have hesc := escV_bd hr (su := (legK s G D (lgN D t)).su) hp.su.1 hp.su.2 hdp.2.2.2.2.2.1 hdp.2.2.2.2.2.2
  refine ⟨by omega, fun e => ?_⟩
  have e2 : t - secT D (lgN D t) = (legK s G D (lgN D t)).s := by omega
  rw [e2] at hesc ⊢
  rw [binV_end hp.s.1]
  have := brV_pos hp hr.br.1
  omega
theorem need_last (h : PlnOk nm s G D) (hr : RuOk T r) (hS : secT D D.length ≤ 20000) {i : Nat} (hi : i < ndN D 0) : ∃ j : Nat, j < ndN D 0 ∧ ndG s G D (j : Int) = ndG s G D (i : Int) ∧ 0 < ndV r s G D (j : Int) := by
  have hiN := hi
  unfold ndN at hi ⊢
  by_cases e : D.length = 0
  · rw [if_pos e] at hi; omega
  rw [if_neg e] at hi ⊢
  have hi2 : (i : Int) ≤ secT D D.length := by omega
  obtain ⟨a1, a2, a3⟩ := lgN_is h (by omega) hi2
  have hk := h.sec (lgN D (i : Int) + 1)
  have hm := sec_mono h (show lgN D (i : Int) + 1 ≤ D.length by omega) (Nat.le_refl _)
  obtain ⟨j, hj⟩ : ∃ j : Nat, secT D (lgN D (i : Int) + 1) = (j : Int) := ⟨(secT D (lgN D (i : Int) + 1)).toNat, by omega⟩
  have hl : lgN D (j : Int) = lgN D (i : Int) := lgN_eq h a1 (fun q hq => by
    have h1 := sec_mono h (show q + 1 ≤ lgN D (i : Int) by omega) (by omega)
    have h2 := secT_succ a1
    have h3 := (legK_ok (s := s) (G := G) h a1).s
    have hs : (legK s G D (lgN D (i : Int))).s = D[lgN D (i : Int)].s := by show (D.getD _ default).s = _; rw [getD_leE]
    omega) (by omega)
  refine ⟨j, by omega, ?_, ?_⟩
  · unfold ndG; rw [hl]
  · have := (need_ge h hr hS (t := (j : Int)) (by omega) (by omega) (by omega)).2 (by rw [hl]; exact hj.symm)
    omega
end
end Go.Proofs.YtijdphlejokijaaGreat
