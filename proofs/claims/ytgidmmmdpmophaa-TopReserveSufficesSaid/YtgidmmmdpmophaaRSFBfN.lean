import Derived.Test.YtgidmmmdpmophaaRSFBfM
import Derived.Outline
namespace Go.Proofs.Ytgidmmmdpmophaa
set_option linter.unusedVariables false
section
variable {nm : ByteArray} {s : Int} {G : List Ga} {D : List Le}
theorem leg_num (h : PlnOk nm s G D) {k : Nat} (hk : k < D.length) (t : Int) : (ptK D k).d * (secT D (k + 1) - t) + D[k].d * (t - secT D k) = (legK s G D k).bd * ((legK s G D k).s - (t - secT D k)) + (legK s G D k).d * (t - secT D k) := by
  have hs : (legK s G D k).s = D[k].s := by show (D.getD k default).s = _; rw [getD_leE hk]
  have hd : (legK s G D k).d = D[k].d := by show (D.getD k default).d = _; rw [getD_leE hk]
  have hb : (legK s G D k).bd = (ptK D k).d := rfl
  rw [hs, hd, hb, secT_succ hk, show secT D k + D[k].s - t = D[k].s - (t - secT D k) by omega]
theorem bf_data (h : PlnOk nm s G D) {t : Int} (h0 : 0 < D.length) (t0 : 0 ≤ t) (t1 : t ≤ secT D D.length) {kk : Nat} (hk : kk < D.length) (hk2 : ∀ j, j < kk → secT D (j + 1) < t) (hk3 : t ≤ secT D (kk + 1)) {num den lo : Int} (hnum : (ptK D kk).d * (secT D (kk + 1) - t) + D[kk].d * (t - secT D kk) = num) (hden : secT D (kk + 1) - secT D kk = den) (hlo : num / den = lo) (hw : num % den = 0) (r : Ru) :
    ∃ (nb : Nat) (DB : List Le), nb = DB.length ∧ nb ≤ D.length ∧ (∀ k, k < nb → secT D k < t) ∧ (nb < D.length → t ≤ secT D nb) ∧ (∀ k, k < nb → t < secT D (k + 1) → DB.getD k default = ⟨t - secT D k, lo, (D.getD k default).g⟩) ∧ (∀ k, k < nb → secT D (k + 1) ≤ t → DB.getD k default = D.getD k default) ∧
      PlnOk nm s G DB ∧ ndN DB 0 ≤ ndN D 0 ∧ secT DB nb ≤ secT D D.length ∧ ∀ i : Nat, i < ndN DB 0 → ndG s G DB (i : Int) = ndG s G D (i : Int) ∧ ndV r s G DB (i : Int) = ndV r s G D (i : Int) := by
  have e1 := secT_succ hk
  obtain ⟨a1, a2, a3, a4, _, _⟩ := h.le _ (List.getElem_mem hk)
  have hpt := (legK_ok (s := s) (G := G) h hk).bd
  have hb : (legK s G D kk).bd = (ptK D kk).d := rfl
  rw [hb] at hpt
  have hbeg : 0 < t → secT D kk < t := fun hp => by
    by_cases e : kk = 0
    · rw [e]; show secs (D.take 0) < t; simpa [secs] using hp
    · have := hk2 (kk - 1) (by omega)
      rwa [show kk - 1 + 1 = kk by omega] at this
  have hden0 : den = D[kk].s := by omega
  have hlod : lo * den = num := by rw [← hlo]; have := Int.mul_ediv_add_emod num den; rw [hw] at this; rw [Int.mul_comm]; omega
  by_cases ht : t = 0
  · refine ⟨0, [], rfl, by omega, fun k hk => by omega, fun _ => ?_, fun k hk => by omega, fun k hk => by omega, ?_, ?_, ?_, fun i hi => ?_⟩
    · rw [ht]; show (0 : Int) ≤ secs (D.take 0); simp [secs]
    · exact ⟨h.nm, h.su, h.g0, h.g8, h.ga, by simp, fun x hx => by simp at hx, fun k => by simp [secT, secs]⟩
    · simp [ndN]
    · show secs ([].take 0) ≤ _; have := (h.sec D.length).1; simpa [secs] using this
    · simp [ndN] at hi
  · have htp : 0 < t := by omega
    have hq := hbeg htp
    have q1 : 1 ≤ t - secT D kk := by omega
    have q2 : t - secT D kk ≤ D[kk].s := by omega
    have n0 : 0 ≤ num := by
      rw [← hnum]
      have i1 := Int.mul_nonneg hpt.1 (show 0 ≤ secT D (kk + 1) - t by omega)
      have i2 := Int.mul_nonneg a3 (show 0 ≤ t - secT D kk by omega)
      omega
    have n1 : num ≤ 30000 * den := by
      rw [← hnum, hden0]
      have i1 := Int.mul_le_mul_of_nonneg_right hpt.2 (show 0 ≤ secT D (kk + 1) - t by omega)
      have i2 := Int.mul_le_mul_of_nonneg_right a4 (show 0 ≤ t - secT D kk by omega)
      omega
    have m0 : 0 ≤ lo := by rw [← hlo]; exact Int.ediv_nonneg n0 (by omega)
    have m1 : lo ≤ 30000 := by
      rw [← hlo]
      exact Int.ediv_le_of_le_mul (by omega) n1
    have hs : (legK s G D kk).s = D[kk].s := by show (D.getD kk default).s = _; rw [getD_leE hk]
    have hm : lo * (legK s G D kk).s = (legK s G D kk).bd * ((legK s G D kk).s - (t - secT D kk)) + (legK s G D kk).d * (t - secT D kk) := by
      rw [← leg_num h hk t, hnum, hs, ← hden0, hlod]
    have hl := bfL_len (q := t - secT D kk) (m := lo) hk D[kk].g
    have hend := bfL_end (q := t - secT D kk) (m := lo) hk D[kk].g
    have hNN : ndN (bfL D kk (t - secT D kk) lo D[kk].g) 0 = (t + 1).toNat := by
      unfold ndN
      rw [if_neg (by rw [hl]; omega), hl, hend]
      congr 1
      omega
    refine ⟨kk + 1, bfL D kk (t - secT D kk) lo D[kk].g, hl.symm, by omega, fun k hk' => ?_, fun _ => hk3, fun k hk' hlt => ?_, fun k hk' hle => ?_, bf_ok h hk q1 q2 m0 m1, ?_, by rw [hend]; omega, fun i hi => ?_⟩
    · by_cases e : k = kk
      · rw [e]; exact hq
      · have h1 := hk2 k (by omega)
        have h2 := sec_mono h (show k ≤ k + 1 by omega) (by omega)
        omega
    · have e : k = kk := by
        rcases Nat.lt_or_ge k kk with h' | h'
        · have := hk2 k h'; omega
        · omega
      subst e
      rw [bfL_k hk, getD_leE hk]
    · by_cases e : k = kk
      · subst e
        have e2 : t = secT D (k + 1) := by omega
        have e3 : t - secT D k = D[k].s := by omega
        have e4 : lo = D[k].d := by
          have h3 := hnum
          rw [← e2, Int.sub_self, Int.mul_zero, Int.zero_add, e3] at h3
          rw [← hlo, ← h3, hden0]
          exact Int.mul_ediv_cancel _ (by omega)
        rw [bfL_k hk, getD_leE hk, e3, e4]
      · exact bfL_lo hk (by omega) _
    · rw [hNN]
      unfold ndN
      rw [if_neg (by omega)]
      omega
    · rw [hNN] at hi
      exact bf_need (q := t - secT D kk) (m := lo) (t := t) h hk (by omega) q1 q2 m0 m1 hm (by omega) (by omega)
end
section
variable {gF gH : Nat → Nat} {vF vH sF sH : Nat → Int} {n N M : Nat}
theorem rv_less (hg : ∀ i, i < N → gF i < n) (hM : M ≤ N) (hc : ∀ j, j < M → gH j = gF j ∧ vH j = vF j ∧ sH j = sF j) (g : Nat) : ((rvG rvS gH vH sH n M).getD g (0, -1)).1 ≤ ((rvG rvS gF vF sF n N).getD g (0, -1)).1 := by
  rw [rvG_congr M hc]
  exact rv_up hg g M hM
end
end Go.Proofs.Ytgidmmmdpmophaa
