/- The rest of a division that is never below 0 (the statements' base.Mod); single numbers out of ranges. -/
import Derived.Test.YtfaodlcfjhnhbaaTMeetF
import Derived.Test.YtfaodlcfjhnhbaaTInside
import Derived.Outline
namespace Go.Proofs.Ytfaodlcfjhnhbaa
open Go.ChangeShapes Go.WideShapes Go.ChangeAt Go.RowKit
set_option linter.unusedVariables false
set_option linter.unusedSimpArgs false
attribute [local go_sem ↓] Go.wp_at_zero Go.wp_at_succ
def modI (p b : Int) : Int := if p.tmod b < 0 then p.tmod b + b else p.tmod b
theorem tmod_bd (p : Int) {b : Int} (hb : 1 ≤ b) : -b < p.tmod b ∧ p.tmod b < b := by
  refine ⟨?_, Int.tmod_lt_of_pos _ (by omega)⟩
  by_cases hp : 0 ≤ p
  · have := Int.tmod_nonneg b hp; omega
  · have h1 := Int.tmod_lt_of_pos (-p) (show 0 < b by omega)
    rw [Int.neg_tmod] at h1
    omega
theorem modI_bd (p : Int) {b : Int} (hb : 1 ≤ b) : 0 ≤ modI p b ∧ modI p b < b := by
  have := tmod_bd p hb
  unfold modI
  split <;> omega
theorem Mod_is (p b r : Int) (w : World) (hb : 1 ≤ b) (hb2 : b ≤ 1000000000) (hr : Hid (modI p b = r)) :
    Calls Try.prog 8 #[.int .i64 p, .int .i64 b] w fun e w' => e = .returned (.int .i64 r) ∧ w = w' := by
  have bd := tmod_bd p hb
  have hb0 : b ≠ 0 := by omega
  have ew1 : IntKind.i64.wrap (p.tmod b) = p.tmod b := IntWalk.i64_in _ (by omega)
  by_cases hn : p.tmod b < 0
  · have hv : Hid (p.tmod b + b = r) := by show _ = _; rw [← hr.out, modI, if_pos hn]
    have ew2 : IntKind.i64.wrap (p.tmod b + b) = p.tmod b + b := IntWalk.i64_in _ (by omega)
    have ew3 : wrap64 (p.tmod b + b) = p.tmod b + b := (IntWalk.i64_left _).symm.trans ew2
    clear hr
    go_enter Try.func8, Try.ntmps8
    go_wp2
    go_ret
    exact ⟨ret_int hv.out, rfl⟩
  · have hv : Hid (p.tmod b = r) := by show _ = _; rw [← hr.out, modI, if_neg hn]
    clear hr
    go_enter Try.func8, Try.ntmps8
    go_wp2
    go_ret
    exact ⟨ret_int hv.out, rfl⟩
/-- The single numbers that are taken out of a load. -/
def ow (L : List Ld) (I : List Int) (k : Nat) : Ld :=
  ⟨(L.getD k default).a + modI (I.getD k 0) ((L.getD k default).b - (L.getD k default).a + 1), (L.getD k default).a + modI (I.getD k 0) ((L.getD k default).b - (L.getD k default).a + 1), (L.getD k default).c + modI (I.getD k 0) ((L.getD k default).d - (L.getD k default).c + 1), (L.getD k default).c + modI (I.getD k 0) ((L.getD k default).d - (L.getD k default).c + 1)⟩
def owL (L : List Ld) (I : List Int) (n : Nat) : List Ld := (List.range n).map (ow L I)
theorem ow_at {T : List Cm} {L : List Ld} (hF : Fit T L) (I : List Int) {k : Nat} (hk : k < L.length) : (0 ≤ L[k].a ∧ L[k].a ≤ L[k].b ∧ L[k].b ≤ 100000000) ∧ (0 ≤ L[k].c ∧ L[k].c ≤ L[k].d ∧ L[k].d ≤ 100000000) ∧ ow L I k = ⟨L[k].a + modI (I.getD k 0) (L[k].b - L[k].a + 1), L[k].a + modI (I.getD k 0) (L[k].b - L[k].a + 1), L[k].c + modI (I.getD k 0) (L[k].d - L[k].c + 1), L[k].c + modI (I.getD k 0) (L[k].d - L[k].c + 1)⟩ := by
  have := lodE_ok (hF.ld k hk)
  refine ⟨this.1, this.2, ?_⟩
  unfold ow
  rw [getD_of hk]
theorem owL_in {T : List Cm} {L : List Ld} (hF : Fit T L) (I : List Int) : InL (owL L I L.length) L := by
  intro k h1 h2
  obtain ⟨a, b, e⟩ := ow_at hF I h2
  have m1 := modI_bd (I.getD k 0) (b := L[k].b - L[k].a + 1) (by omega)
  have m2 := modI_bd (I.getD k 0) (b := L[k].d - L[k].c + 1) (by omega)
  simp only [owL, List.getElem_map, List.getElem_range]
  rw [e]
  exact ⟨by show _ ≤ _ + _; omega, by show _ + _ ≤ _; omega, by show _ ≤ _ + _; omega, by show _ + _ ≤ _; omega⟩
theorem owL_meet {T : List Cm} {L : List Ld} (hF : Fit T L) (I : List Int) : MeetL (owL L I L.length) L := by
  intro k h1 h2
  obtain ⟨a, b, e⟩ := ow_at hF I h2
  have m1 := modI_bd (I.getD k 0) (b := L[k].b - L[k].a + 1) (by omega)
  have m2 := modI_bd (I.getD k 0) (b := L[k].d - L[k].c + 1) (by omega)
  simp only [owL, List.getElem_map, List.getElem_range]
  rw [e]
  exact ⟨by show _ + _ ≤ _; omega, by show _ ≤ _ + _; omega, by show _ + _ ≤ _; omega, by show _ ≤ _ + _; omega⟩
theorem self_meet {T : List Cm} {L : List Ld} (hF : Fit T L) : MeetL L L := by
  intro k h1 h2
  obtain ⟨a, b⟩ := ldord_of hF k h1
  exact ⟨a, a, b, b⟩
theorem owL_fit {T : List Cm} {L : List Ld} (hq : loadsE T L = 0) (I : List Int) : loadsE T (owL L I L.length) = 0 := by
  have hF := fit_of hq
  unfold loadsE
  rw [if_pos (tab_of hq), if_pos (by simp [owL]; exact hF.len)]
  refine fstE_z fun k hk => ?_
  have hk' : k < L.length := by simpa [owL] using hk
  obtain ⟨a, b, e⟩ := ow_at hF I hk'
  have m1 := modI_bd (I.getD k 0) (b := L[k].b - L[k].a + 1) (by omega)
  have m2 := modI_bd (I.getD k 0) (b := L[k].d - L[k].c + 1) (by omega)
  simp only [owL, List.getElem_map, List.getElem_range]
  rw [e]
  show lodE (L[k].a + modI (I.getD k 0) (L[k].b - L[k].a + 1)) (L[k].a + modI (I.getD k 0) (L[k].b - L[k].a + 1)) (L[k].c + modI (I.getD k 0) (L[k].d - L[k].c + 1)) (L[k].c + modI (I.getD k 0) (L[k].d - L[k].c + 1)) = 0
  exact lodE_7 (inB_true (by omega) (by omega)) (inB_true (by omega) (by omega)) (inB_true (by omega) (by omega)) (inB_true (by omega) (by omega)) (by omega) (by omega)
theorem lcs_mapq (f : Nat → Ld) (k : Nat) : lcs ((List.range (k + 1)).map f) = lcs ((List.range k).map f) ++ [.int .i64 (f k).a, .int .i64 (f k).b, .int .i64 (f k).c, .int .i64 (f k).d] := by
  rw [List.range_succ, List.map_append]
  unfold lcs
  rw [List.flatMap_append]
  rfl
end Go.Proofs.Ytfaodlcfjhnhbaa
