import Derived.Test.YtjkhjjmmkdfjmaaGTFLeaf
import Derived.Deep.DrawnRows
import Derived.Deep.CutRange
import Derived.Outline
namespace Go.Proofs.Ytjkhjjmmkdfjmaa
open Go.ChangeShapes Go.WideShapes Go.ChangeAt Go.RowKit
set_option linter.unusedVariables false
set_option linter.unusedSimpArgs false
/-- Whether amounts are those of a content. -/
def conB (a b c : Int) : Bool := inB a 0 1000000000 && inB b 0 (1000000000 - a) && inB c 0 (1000000000 - a - b)
def conE (a b c : Int) : Int := if conB a b c = true then 0 else 2
theorem conE_t {a b c : Int} (h : conB a b c = true) : conE a b c = 0 := by unfold conE; rw [if_pos h]
theorem conE_f {a b c : Int} (h : conB a b c = false) : conE a b c = 2 := by unfold conE; rw [if_neg (by simp [h])]
theorem conB_iff {a b c : Int} : conB a b c = true ↔ 0 ≤ a ∧ 0 ≤ b ∧ 0 ≤ c ∧ a + b + c ≤ 1000000000 := by
  unfold conB
  simp only [Bool.and_eq_true, inB_iff]
  omega
theorem mPartsOf_any (a b c : Int) (w : World) :
    Calls Try.prog 103 #[.agg #[.int .i64 a, .int .i64 b, .int .i64 c]] w fun e w' => e = .returned (.agg #[.int .i64 a, .int .i64 b, .int .i64 c]) ∧ Below w.heap.size w w' := by
  go_enter Try.func103, Try.ntmps103
  go_wp2
  refine bodyPost_ret (v := .agg #[.int .i64 a, .int .i64 b, .int .i64 c]) (by simp [results, Try.results103, go_sem]) rfl ⟨rfl, ?_⟩
  exact belA
theorem content_any (a b c : Int) (w : World) :
    Calls Try.prog 106 #[.agg #[.int .i64 a, .int .i64 b, .int .i64 c]] w fun e w' => e = .returned (.agg #[.int .i64 a, .int .i64 b, .int .i64 c]) ∧ Below w.heap.size w w' := by
  go_enter Try.func106, Try.ntmps106
  go_wp2
  refine bodyPost_ret (v := .agg #[.int .i64 a, .int .i64 b, .int .i64 c]) (by simp [results, Try.results106, go_sem]) rfl ⟨rfl, ?_⟩
  exact belA
/-- Some number comes back. -/
def SomeN (w : World) (e : Ending) (w' : World) : Prop := ∃ s : Int, e = .returned (.int .i64 s) ∧ Below w.heap.size w w'
theorem sumOf_some (a b c : Int) (w : World) : Calls Try.prog 70 #[.agg #[.int .i64 a, .int .i64 b, .int .i64 c]] w (SomeN w) := by
  go_enter Try.func70, Try.ntmps70
  go_wp2
  go_ret
  exact ⟨_, rfl, belA⟩
theorem sumOf_ok (a b c s : Int) (w : World) (h : Hid (conB a b c = true)) (hs : Hid (a + b + c = s)) : Calls Try.prog 70 #[.agg #[.int .i64 a, .int .i64 b, .int .i64 c]] w fun e w' => e = .returned (.int .i64 s) ∧ Below w.heap.size w w' := by
  obtain ⟨h1, h2, h3, h4⟩ := conB_iff.1 h.out
  go_enter Try.func70, Try.ntmps70
  go_wp2
  go_ret
  exact ⟨ret_int hs.out, belA⟩
set_option maxRecDepth 100000 in
theorem checkContent_any (a b c E : Int) (w : World) (hE : Hid (conE a b c = E)) :
    Calls Try.prog 74 #[.agg #[.int .i64 a, .int .i64 b, .int .i64 c]] w fun e w' => e = .returned (.int .i64 E) ∧ Below w.heap.size w w' := by
  have i0 : ∀ w : World, (Instr.index 145 (.agg #[.int .i64 a, .int .i64 b, .int .i64 c]) (.int .i64 0)).run Try.prog w = .ok (.int .i64 a) w := fun _ => by kernel_rfl
  have i1 : ∀ w : World, (Instr.index 145 (.agg #[.int .i64 a, .int .i64 b, .int .i64 c]) (.int .i64 1)).run Try.prog w = .ok (.int .i64 b) w := fun _ => by kernel_rfl
  have i2 : ∀ w : World, (Instr.index 145 (.agg #[.int .i64 a, .int .i64 b, .int .i64 c]) (.int .i64 2)).run Try.prog w = .ok (.int .i64 c) w := fun _ => by kernel_rfl
  rcases inB_cases a 0 1000000000 with h1 | h1
  · obtain ⟨p1, p2⟩ := inB_iff.1 h1
    rcases inB_cases b 0 (1000000000 - a) with h2 | h2
    · obtain ⟨p3, p4⟩ := inB_iff.1 h2
      rcases inB_cases c 0 (1000000000 - a - b) with h3 | h3
      · obtain ⟨p5, p6⟩ := inB_iff.1 h3
        have hr : Hid (E = 0) := by show _ = _; rw [← hE.out]; exact conE_t (by unfold conB; rw [h1, h2, h3]; rfl)
        clear hE
        go_enter Try.func74, Try.ntmps74
        go_wp2_with ((go_at_call 103; ((with_reducible refine (mPartsOf_any _ _ _ _).mono ?_)); rintro e w1 ⟨rfl, hbw⟩; obtain ⟨hbc, hbf⟩ := bcell hbw; have hbs := hbw.size))
        refine wp_loop_rounds 4 ?_
        rw [rounds_succ]
        go_wp2_with ((go_at_call 81; ((with_reducible refine (cWithin_any _ _ _ _).mono ?_)); rintro e w' ⟨rfl, rfl⟩))
        rw [rounds_succ]
        go_wp2_with ((go_at_call 81; ((with_reducible refine (cWithin_any _ _ _ _).mono ?_)); rintro e w' ⟨rfl, rfl⟩))
        rw [rounds_succ]
        go_wp2_with ((go_at_call 81; ((with_reducible refine (cWithin_any _ _ _ _).mono ?_)); rintro e w' ⟨rfl, rfl⟩))
        rw [rounds_succ]
        go_wp2_with ((go_at_call 81; ((with_reducible refine (cWithin_any _ _ _ _).mono ?_)); rintro e w' ⟨rfl, rfl⟩))
        go_ret
        exact ⟨ret_int hr.out.symm, belA⟩
      · have hr : Hid (E = 2) := by show _ = _; rw [← hE.out]; exact conE_f (by unfold conB; rw [h1, h2, h3]; rfl)
        clear hE
        go_enter Try.func74, Try.ntmps74
        go_wp2_with ((go_at_call 103; ((with_reducible refine (mPartsOf_any _ _ _ _).mono ?_)); rintro e w1 ⟨rfl, hbw⟩; obtain ⟨hbc, hbf⟩ := bcell hbw; have hbs := hbw.size))
        refine wp_loop_rounds 3 ?_
        rw [rounds_succ]
        go_wp2_with ((go_at_call 81; ((with_reducible refine (cWithin_any _ _ _ _).mono ?_)); rintro e w' ⟨rfl, rfl⟩))
        rw [rounds_succ]
        go_wp2_with ((go_at_call 81; ((with_reducible refine (cWithin_any _ _ _ _).mono ?_)); rintro e w' ⟨rfl, rfl⟩))
        rw [rounds_succ]
        go_wp2_with ((go_at_call 81; ((with_reducible refine (cWithin_any _ _ _ _).mono ?_)); rintro e w' ⟨rfl, rfl⟩))
        go_ret
        exact ⟨ret_int hr.out.symm, belA⟩
    · have hr : Hid (E = 2) := by show _ = _; rw [← hE.out]; exact conE_f (by unfold conB; rw [h1, h2]; rfl)
      clear hE
      go_enter Try.func74, Try.ntmps74
      go_wp2_with ((go_at_call 103; ((with_reducible refine (mPartsOf_any _ _ _ _).mono ?_)); rintro e w1 ⟨rfl, hbw⟩; obtain ⟨hbc, hbf⟩ := bcell hbw; have hbs := hbw.size))
      refine wp_loop_rounds 2 ?_
      rw [rounds_succ]
      go_wp2_with ((go_at_call 81; ((with_reducible refine (cWithin_any _ _ _ _).mono ?_)); rintro e w' ⟨rfl, rfl⟩))
      rw [rounds_succ]
      go_wp2_with ((go_at_call 81; ((with_reducible refine (cWithin_any _ _ _ _).mono ?_)); rintro e w' ⟨rfl, rfl⟩))
      go_ret
      exact ⟨ret_int hr.out.symm, belA⟩
  · have hr : Hid (E = 2) := by show _ = _; rw [← hE.out]; exact conE_f (by unfold conB; rw [h1]; rfl)
    clear hE
    go_enter Try.func74, Try.ntmps74
    go_wp2_with ((go_at_call 103; ((with_reducible refine (mPartsOf_any _ _ _ _).mono ?_)); rintro e w1 ⟨rfl, hbw⟩; obtain ⟨hbc, hbf⟩ := bcell hbw; have hbs := hbw.size))
    refine wp_loop_rounds 1 ?_
    rw [rounds_succ]
    go_wp2_with ((go_at_call 81; ((with_reducible refine (cWithin_any _ _ _ _).mono ?_)); rintro e w' ⟨rfl, rfl⟩))
    go_ret
    exact ⟨ret_int hr.out.symm, belA⟩
end Go.Proofs.Ytjkhjjmmkdfjmaa
