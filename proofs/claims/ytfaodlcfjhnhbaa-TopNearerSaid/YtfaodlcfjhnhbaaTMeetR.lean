/- A rest meets the same rest as a leg. -/
import Derived.Test.YtfaodlcfjhnhbaaTTele
import Derived.Test.YtfaodlcfjhnhbaaTRestG
import Derived.Test.YtfaodlcfjhnhbaaTMeetL
import Derived.Outline
namespace Go.Proofs.Ytfaodlcfjhnhbaa
open Go.ChangeShapes Go.WideShapes Go.ChangeAt Go.RowKit
set_option linter.unusedVariables false
set_option linter.unusedSimpArgs false
theorem ar_still {f s : Int} {n i : Nat} (s0 : 0 ≤ s) : arLo f f s n i = f ∧ arHi f f s n i = f := by
  have a : ∀ j : Int, mkLo f f s n j = f ∧ mkHi f f s n j = f := fun j => by
    unfold mkLo mkHi
    by_cases hs : s = 0
    · rw [if_pos hs, if_pos hs]; exact ⟨rfl, rfl⟩
    · rw [if_neg hs, if_neg hs]
      have e : mkP f f s (mkS s n j) = f * s := by
        unfold mkP
        rw [← Int.mul_add]; congr 1; omega
      rw [e]
      refine ⟨Int.mul_ediv_cancel f hs, ?_⟩
      rw [show f * s + s - 1 = (s - 1) + f * s by omega, Int.add_mul_ediv_right _ _ hs, Int.ediv_eq_zero_of_lt (by omega) (by omega)]
      omega
  unfold arLo arHi
  rw [(a i).1, (a _).1, (a i).2, (a _).2]
  omega
theorem getD_list {P : List Ld} {k : Nat} (hk : k < P.length) : P.getD k default = P[k] := getD_of hk
/-- THE REST MEETS the same rest as a leg, in each load. -/
theorem rest_meets {su se : Int} {n : Nat} {T : List Cm} {L : List Ld} (hF : Fit T L) (se0 : 0 ≤ se) : MeetL (rsR su se T L) (ldR su su se n 210 0 T L (stK se n)) := by
  intro k h1 h2
  have hkt : k < T.length := by simpa [rsR] using h1
  have hkl : k < L.length := by rw [hF.len]; exact hkt
  obtain ⟨⟨n1, _⟩, n2, _⟩ := (tb_of hF).2.2 k hkt
  obtain ⟨o1, o2⟩ := ldord_of hF k hkl
  have eT : T.getD k default = T[k] := getD_of hkt
  have hz := mkS_0 se n
  have hK := mkS_K (n := n) se0
  have hm : ∀ i, i < stK se n → mkS se n (i : Nat) ≤ mkS se n ((i + 1 : Nat) : Int) := fun i _ => mkS_mono se0
  have hat := fun i => ldR_at (f := su) (t := su) (s := se) (o := 210) (h := 0) (n := n) (T := T) (P := L) hkt i
  have hq := fun i => ar_still (f := su) (s := se) (n := n) (i := i) se0
  have e0 : (ldR su su se n 210 0 T L 0).getD k default = L[k] := getD_of hkl
  have eR : (rsR su se T L)[k] = stepR se 20 T L ((1000 - 210 - 0) * (su - 63)) ((1000 - 210 - 0) * (su - 63)) 0 0 k := by simp [rsR]
  have eL : L.getD k default = L[k] := getD_of hkl
  rw [← getD_list h2, eR]
  refine ⟨?_, ?_, ?_, ?_⟩
  · have := one_tele (fun i => mkS se n (i : Nat)) T[k].n (8 + 2 * n) 20 n1 ((1000 - 210 - 0) * (su - 63)) L[k].a (fun _ => (1000 - 210 - 0) * (su - 63)) (fun i => ((ldR su su se n 210 0 T L i).getD k default).b) (stK se n) hm (by show L[k].a ≤ _; rw [e0]; exact o1) (fun i hi => ⟨Int.le_refl _, by
      show ((ldR su su se n 210 0 T L (i + 1)).getD k default).b = _
      rw [hat i]; unfold stepR decAt; rw [eT, (hq i).2]⟩)
    try simp only at this
    rw [hz, hK, Int.sub_zero se] at this
    refine Int.le_trans (Int.le_of_eq ?_) this
    unfold stepR decAt
    rw [eT, eL]
  · have := tele_one (fun i => mkS se n (i : Nat)) T[k].n (8 + 2 * n) 20 n1 ((1000 - 210 - 0) * (su - 63)) L[k].b (fun _ => (1000 - 210 - 0) * (su - 63)) (fun i => ((ldR su su se n 210 0 T L i).getD k default).a) (stK se n) hm (by show _ ≤ L[k].b; rw [e0]; exact o1) (fun i hi => ⟨Int.le_refl _, by
      show ((ldR su su se n 210 0 T L (i + 1)).getD k default).a = _
      rw [hat i]; unfold stepR decAt; rw [eT, (hq i).1]⟩)
    try simp only at this
    rw [hz, hK, Int.sub_zero se] at this
    refine Int.le_trans this (Int.le_of_eq ?_)
    unfold stepR decAt
    rw [eT, eL]
  · have := one_tele (fun i => mkS se n (i : Nat)) T[k].h (8 + 2 * n) 20 n2 0 L[k].c (fun _ => 0) (fun i => ((ldR su su se n 210 0 T L i).getD k default).d) (stK se n) hm (by show L[k].c ≤ _; rw [e0]; exact o2) (fun i hi => ⟨Int.le_refl _, by
      show ((ldR su su se n 210 0 T L (i + 1)).getD k default).d = _
      rw [hat i]; unfold stepR decAt; rw [eT, Int.zero_mul, Int.zero_mul]⟩)
    try simp only at this
    rw [hz, hK, Int.sub_zero se] at this
    refine Int.le_trans (Int.le_of_eq ?_) this
    unfold stepR decAt
    rw [eT, eL]
  · have := tele_one (fun i => mkS se n (i : Nat)) T[k].h (8 + 2 * n) 20 n2 0 L[k].d (fun _ => 0) (fun i => ((ldR su su se n 210 0 T L i).getD k default).c) (stK se n) hm (by show _ ≤ L[k].d; rw [e0]; exact o2) (fun i hi => ⟨Int.le_refl _, by
      show ((ldR su su se n 210 0 T L (i + 1)).getD k default).c = _
      rw [hat i]; unfold stepR decAt; rw [eT, Int.zero_mul, Int.zero_mul]⟩)
    try simp only at this
    rw [hz, hK, Int.sub_zero se] at this
    refine Int.le_trans this (Int.le_of_eq ?_)
    unfold stepR decAt
    rw [eT, eL]
end Go.Proofs.Ytfaodlcfjhnhbaa
