import Derived.Test.YtgidmmmdpmophaaRSFERct
import Derived.Test.YtgidmmmdpmophaaRSFENeed
import Derived.Outline
namespace Go.Proofs.Ytgidmmmdpmophaa
set_option linter.unusedVariables false
/-- The number of the leg at a second: how many legs end before it. -/
def lgN (D : List Le) (t : Int) : Nat := dpt (fun k => decide (D.length ≤ k ∨ t ≤ secT D (k + 1))) D.length
theorem lgN_is {nm : ByteArray} {s : Int} {G : List Ga} {D : List Le} (h : PlnOk nm s G D) {t : Int} (h0 : 0 < D.length) (ht : t ≤ secT D D.length) : lgN D t < D.length ∧ (∀ j, j < lgN D t → secT D (j + 1) < t) ∧ t ≤ secT D (lgN D t + 1) := by
  have hm : ∀ i j, i ≤ j → (fun k => decide (D.length ≤ k ∨ t ≤ secT D (k + 1))) i = true → (fun k => decide (D.length ≤ k ∨ t ≤ secT D (k + 1))) j = true := by
    intro i j hij hi
    simp only [decide_eq_true_eq] at hi ⊢
    by_cases e : D.length ≤ j
    · exact Or.inl e
    · rcases hi with hi | hi
      · omega
      · exact Or.inr (Int.le_trans hi (sec_mono h (by omega) (by omega)))
  obtain ⟨h1, h2, h3⟩ := dpt_is hm D.length
  have hl : lgN D t < D.length := by
    rcases Nat.lt_or_ge (lgN D t) D.length with h | h
    · exact h
    · exfalso
      have := h2 (D.length - 1) (by unfold lgN at h; omega)
      simp only [decide_eq_false_iff_not, not_or] at this
      exact this.2 (by rw [show D.length - 1 + 1 = D.length by omega]; exact ht)
  refine ⟨hl, fun j hj => ?_, ?_⟩
  · have := h2 j hj
    simp only [decide_eq_false_iff_not, not_or] at this
    omega
  · have := h3 (lgN D t) (Nat.le_refl _) hl
    simp only [decide_eq_true_eq] at this
    rcases this with h | h
    · omega
    · exact h
theorem lgN_eq {nm : ByteArray} {s : Int} {G : List Ga} {D : List Le} (h : PlnOk nm s G D) {t : Int} {k : Nat} (hk : k < D.length) (h1 : ∀ j, j < k → secT D (j + 1) < t) (h2 : t ≤ secT D (k + 1)) : lgN D t = k := by
  have ht : t ≤ secT D D.length := Int.le_trans h2 (sec_mono h (by omega) (Nat.le_refl _))
  obtain ⟨a1, a2, a3⟩ := lgN_is h (by omega) ht
  rcases Nat.lt_trichotomy (lgN D t) k with e | e | e
  · have := h1 _ e; omega
  · exact e
  · have := a2 _ e; omega
theorem lgN_beg {nm : ByteArray} {s : Int} {G : List Ga} {D : List Le} (h : PlnOk nm s G D) {t : Int} (h0 : 0 < D.length) (t0 : 0 ≤ t) (ht : t ≤ secT D D.length) : secT D (lgN D t) ≤ t := by
  obtain ⟨a1, a2, a3⟩ := lgN_is h h0 ht
  by_cases e : lgN D t = 0
  · rw [e]; show secs (D.take 0) ≤ t; simpa [secs] using t0
  · have := a2 (lgN D t - 1) (by omega)
    rw [show lgN D t - 1 + 1 = lgN D t by omega] at this
    omega
/-- The gas at a second, and what is needed of it. -/
def ndG (s : Int) (G : List Ga) (D : List Le) (t : Int) : Nat := (legK s G D (lgN D t)).g.toNat
def ndV (r : Ru) (s : Int) (G : List Ga) (D : List Le) (t : Int) : Int := (conA r.br (legC s G D) G.length (List.range (lgN D t))).getD (ndG s G D t) 0 + nedV (legC s G D (lgN D t)) r (t - secT D (lgN D t))
theorem ndG_lt {nm : ByteArray} {s : Int} {G : List Ga} {D : List Le} (h : PlnOk nm s G D) {t : Int} (h0 : 0 < D.length) (ht : t ≤ secT D D.length) : ndG s G D t < G.length ∧ (legK s G D (lgN D t)).g = (ndG s G D t : Int) := by
  have hl := (lgN_is h h0 ht).1
  obtain ⟨_, _, _, _, g5, g6⟩ := h.le _ (List.getElem_mem hl)
  have e : (legK s G D (lgN D t)).g = D[lgN D t].g := by show (D.getD _ default).g = _; rw [getD_leE hl]
  unfold ndG
  rw [e]
  omega
theorem conT_past {nm : ByteArray} {s : Int} {G : List Ga} {D : List Le} {b t : Int} {n : Nat} (h : PlnOk nm s G D) : ∀ k, k ≤ D.length → secT D k ≤ t → conT b t (legK s G D) n (List.range k) = conA b (legK s G D) n (List.range k)
  | 0, _, _ => by simp [conT, conA]
  | k + 1, hk, ht => by
    have hp := legK_ok h (show k < D.length by omega)
    have hs : (legK s G D k).s = D[k].s := by show (D.getD k default).s = _; rw [getD_leE]
    have hb : (legK s G D k).bs = secT D k := rfl
    have hs1 := hp.s
    rw [secT_succ (show k < D.length by omega)] at ht
    rw [List.range_succ, conT_snoc, conA_snoc, conT_past h k (by omega) (by omega)]
    unfold ctStep conStep
    have e : binS (legK s G D k) b t = brV (legK s G D k) b := by
      unfold binS
      rw [if_neg (by omega), show min (legK s G D k).s (t - (legK s G D k).bs) = (legK s G D k).s by omega]
      exact binV_end hs1.1
    rw [e]
theorem binV_zero {x : Pl} {b : Int} (s0 : 1 ≤ x.s) : binV x b 0 = 0 := by
  unfold binV upE
  rw [Int.mul_zero, Int.zero_add]
  exact Int.ediv_eq_zero_of_lt (by omega) (by omega)
theorem conA_rangeN {b s : Int} {G : List Ga} {D : List Le} {n k : Nat} (hk : k ≤ D.length) : conA b (legC s G D) n (List.range k) = conA b (legK s G D) n (List.range k) := conA_congr fun j hj => by rw [legC_is (by have := List.mem_range.1 hj; omega)]
/-- What is needed, by the seconds. -/
theorem ndV_T {nm : ByteArray} {s : Int} {G : List Ga} {D : List Le} {r : Ru} (h : PlnOk nm s G D) {t : Int} (h0 : 0 < D.length) (t0 : 0 ≤ t) (ht : t ≤ secT D D.length) :
    ndV r s G D t = (conT r.br t (legK s G D) G.length (List.range D.length)).getD (ndG s G D t) 0 + escV r s (depV (legK s G D (lgN D t)) (t - secT D (lgN D t))) := by
  obtain ⟨a1, a2, a3⟩ := lgN_is h h0 ht
  have a4 := lgN_beg h h0 t0 ht
  obtain ⟨g1, g2⟩ := ndG_lt h h0 ht
  unfold ndV
  obtain ⟨k, hk⟩ : ∃ k, lgN D t = k := ⟨_, rfl⟩
  obtain ⟨g, hg⟩ : ∃ g, ndG s G D t = g := ⟨_, rfl⟩
  rw [hk] at a1 a2 a3 a4 g2 ⊢
  rw [hg] at g1 g2 ⊢
  have hp := legK_ok h a1
  have hs : (legK s G D k).s = D[k].s := by show (D.getD k default).s = _; rw [getD_leE]
  have hb : (legK s G D k).bs = secT D k := rfl
  have hs1 := hp.s
  rw [secT_succ a1] at a3
  have e1 : conT r.br t (legK s G D) G.length (List.range D.length) = conT r.br t (legK s G D) G.length (List.range (k + 1)) := by
    by_cases e : k + 1 = D.length
    · rw [e]
    · refine conT_cut h (Lib.hid rfl) (Lib.hid rfl) (by omega) ?_
      show t ≤ secT D (k + 1)
      rw [secT_succ a1]
      exact a3
  have hgk : (legK s G D k).g.toNat = g := by omega
  have hl := (conT_snocL r.br t (legK s G D) G.length k (List.range k) (by simp)).1
  have e2 : binS (legK s G D k) r.br t = binV (legK s G D k) r.br (t - secT D k) := by
    unfold binS
    by_cases e : t ≤ (legK s G D k).bs
    · rw [if_pos e, show t - secT D k = 0 by omega, binV_zero hs1.1]
    · rw [if_neg e, hb, show min (legK s G D k).s (t - secT D k) = t - secT D k by omega]
  rw [e1, List.range_succ, conT_snoc]
  unfold ctStep
  rw [hgk, e2, List.getD_eq_getElem?_getD (l := List.set _ _ _), List.getElem?_set, if_pos rfl, if_pos (by omega), Option.getD_some, conT_past h k (by omega) a4, conA_rangeN (by omega), legC_is a1]
  unfold nedV
  have hsu : (legK s G D k).su = s := rfl
  rw [hsu]
  omega
/-- The seconds of a leg. -/
theorem endC_is {s : Int} {G : List Ga} {D : List Le} {k : Nat} (hk : k < D.length) : endC s G D k = secT D (k + 1) := by
  unfold endC
  rw [legC_is hk, secT_succ hk]
  show secT D k + (D.getD k default).s = _
  rw [getD_leE hk]
end Go.Proofs.Ytgidmmmdpmophaa
