import Derived.Test.YtgidmmmdpmophaaRSFENp
import Derived.Outline
namespace Go.Proofs.Ytgidmmmdpmophaa
set_option linter.unusedVariables false
def rvS (p : Int × Int) (v t : Int) : Int × Int := if p.1 < v then (v, t) else p
def rvG (f : Int × Int → Int → Int → Int × Int) (gF : Nat → Nat) (vF sF : Nat → Int) (n : Nat) : Nat → List (Int × Int)
  | 0 => List.replicate n (0, -1)
  | i + 1 => (rvG f gF vF sF n i).set (gF i) (f ((rvG f gF vF sF n i).getD (gF i) (0, -1)) (vF i) (sF i))
section
variable {f : Int × Int → Int → Int → Int × Int} {gF : Nat → Nat} {vF sF : Nat → Int} {n N : Nat}
theorem rvG_len : ∀ i, (rvG f gF vF sF n i).length = n
  | 0 => by simp [rvG]
  | i + 1 => by simp [rvG, rvG_len i]
theorem rvG_eq {i : Nat} (h : gF i < n) : (rvG f gF vF sF n (i + 1)).getD (gF i) (0, -1) = f ((rvG f gF vF sF n i).getD (gF i) (0, -1)) (vF i) (sF i) := by
  show ((rvG f gF vF sF n i).set (gF i) _).getD (gF i) (0, -1) = _
  rw [List.getD_eq_getElem?_getD, List.getElem?_set_self (by rw [rvG_len]; exact h)]
  rfl
theorem rvG_ne {i g : Nat} (h : gF i ≠ g) : (rvG f gF vF sF n (i + 1)).getD g (0, -1) = (rvG f gF vF sF n i).getD g (0, -1) := by
  show ((rvG f gF vF sF n i).set (gF i) _).getD g (0, -1) = _
  rw [List.getD_eq_getElem?_getD, List.getElem?_set_ne h, ← List.getD_eq_getElem?_getD]
theorem rvG_0 {g : Nat} : (rvG f gF vF sF n 0).getD g (0, -1) = (0, -1) := by
  show (List.replicate n ((0 : Int), (-1 : Int))).getD g (0, -1) = _
  rw [List.getD_eq_getElem?_getD, List.getElem?_replicate]
  split <;> rfl
theorem set_same {α : Type} {l : List α} {g : Nat} {d : α} (h : g < l.length) : l.set g (l.getD g d) = l := by
  rw [List.getD_eq_getElem?_getD, List.getElem?_eq_getElem h]
  exact List.set_getElem_self h
/-- What is kept is the greatest need of a gas, and the first second of it. -/
theorem rv_char (hg : ∀ i, i < N → gF i < n) : ∀ i, i ≤ N → ∀ g, g < n →
    0 ≤ ((rvG rvS gF vF sF n i).getD g (0, -1)).1 ∧ (∀ j, j < i → gF j = g → vF j ≤ ((rvG rvS gF vF sF n i).getD g (0, -1)).1) ∧
    (0 < ((rvG rvS gF vF sF n i).getD g (0, -1)).1 → ∃ k, k < i ∧ gF k = g ∧ vF k = ((rvG rvS gF vF sF n i).getD g (0, -1)).1 ∧ sF k = ((rvG rvS gF vF sF n i).getD g (0, -1)).2 ∧ ∀ j, j < k → gF j = g → vF j < ((rvG rvS gF vF sF n i).getD g (0, -1)).1)
  | 0, _, g, _ => by
    rw [rvG_0]
    exact ⟨by simp, fun j hj => by omega, fun h => by simp at h⟩
  | i + 1, hi, g, hgn => by
    obtain ⟨i1, i2, i3⟩ := rv_char hg i (by omega) g hgn
    by_cases e : gF i = g
    · subst e
      rw [rvG_eq hgn]
      generalize (rvG rvS gF vF sF n i).getD (gF i) (0, -1) = r at i1 i2 i3 ⊢
      unfold rvS
      by_cases hz : r.1 < vF i
      · simp only [hz, if_true]
        refine ⟨by omega, fun j hj hjg => ?_, fun _ => ⟨i, by omega, rfl, rfl, rfl, fun j hj hjg => ?_⟩⟩
        · rcases Nat.lt_or_ge j i with h | h
          · have := i2 j h hjg; omega
          · rw [show j = i by omega]; exact Int.le_refl _
        · have := i2 j hj hjg; omega
      · simp only [hz, if_false]
        refine ⟨i1, fun j hj hjg => ?_, fun h => ?_⟩
        · rcases Nat.lt_or_ge j i with h | h
          · exact i2 j h hjg
          · rw [show j = i by omega]; omega
        · obtain ⟨k, k1, k2⟩ := i3 h
          exact ⟨k, by omega, k2⟩
    · rw [rvG_ne e]
      refine ⟨i1, fun j hj hjg => ?_, fun h => ?_⟩
      · rcases Nat.lt_or_ge j i with h | h
        · exact i2 j h hjg
        · rw [show j = i by omega] at hjg; exact absurd hjg e
      · obtain ⟨k, k1, k2⟩ := i3 h
        exact ⟨k, by omega, k2⟩
end
theorem upE_pos {n d : Int} (n1 : 1 ≤ n) (d1 : 1 ≤ d) : 1 ≤ upE n d := by
  unfold upE
  exact (Int.le_ediv_iff_mul_le (by omega)).2 (by omega)
theorem brV_pos {x : Pl} {b : Int} (h : PlOk x) (b0 : 1 ≤ b) : 1 ≤ brV x b := by
  have h1 := h.s
  have h2 := h.d
  have h3 := h.bd
  have h4 := h.su
  unfold brV
  refine upE_pos ?_ (by omega)
  have : 0 < b * (x.su + x.bd + (x.su + x.d)) * x.s := Int.mul_pos (Int.mul_pos (by omega) (by omega)) (by omega)
  omega
section
variable {nm : ByteArray} {s : Int} {G : List Ga} {D : List Le} {T : List Ox} {r : Ru}
theorem need_ge (h : PlnOk nm s G D) (hr : RuOk T r) (hS : secT D D.length ≤ 20000) {t : Int} (h0 : 0 < D.length) (t0 : 0 ≤ t) (ht : t ≤ secT D D.length) :
    0 ≤ ndV r s G D t ∧ (t = secT D (lgN D t + 1) → 1 ≤ ndV r s G D t) := by
  obtain ⟨a1, a2, a3⟩ := lgN_is h h0 ht
  have a4 := lgN_beg h h0 t0 ht
  have hp := legK_ok h a1
  have hs : (legK s G D (lgN D t)).s = D[lgN D t].s := by show (D.getD _ default).s = _; rw [getD_leE]
  have hsh := leg_short h hS (lgN D t)
  have e1 := secT_succ a1
  have hA := (conA_snocL r.br (legC s G D) G.length (lgN D t) (List.range (lgN D t)) (by simp)).2 (legC_ok h) hr.br.1 hr.br.2 (ndG s G D t)
  unfold ndV
  rw [legC_is a1] at hsh ⊢
  unfold nedV
  have hq0 : 0 ≤ t - secT D (lgN D t) := by omega
  have hq1 : t - secT D (lgN D t) ≤ (legK s G D (lgN D t)).s := by omega
  have hb := binV_bd hp hr.br.1 hr.br.2 hq0 hq1 hsh
  have hdp := dep_bd hp hq0 hq1
  have hsu : (legK s G D (lgN D t)).su = s := rfl
  have hesc := escV_bd hr (su := (legK s G D (lgN D t)).su) hp.su.1 hp.su.2 hdp.2.2.2.2.2.1 hdp.2.2.2.2.2.2
  refine ⟨by omega, fun e => ?_⟩
  have e2 : t - secT D (lgN D t) = (legK s G D (lgN D t)).s := by omega
  rw [e2] at hesc ⊢
  rw [binV_end hp.s.1]
  have := brV_pos hp hr.br.1
  omega
end
end Go.Proofs.Ytgidmmmdpmophaa
