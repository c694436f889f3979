/- The specification's contents: CheckContent, Sum, Matches. -/
import Derived.Test.YtjkhjjmmkdfjmaaFMatch
import Derived.Outline
namespace Go.Proofs.Ytjkhjjmmkdfjmaa
open Go.ChangeShapes Go.WideShapes Go.ChangeAt Go.RowKit
set_option linter.unusedVariables false
set_option linter.unusedSimpArgs false
attribute [local go_sem ↓] Go.wp_at_zero Go.wp_at_succ
theorem refSum_b (a b c s : Int) (w : World) (a0 : 0 ≤ a) (a1 : a ≤ 1000000000) (b0 : 0 ≤ b) (b1 : b ≤ 1000000000) (c0 : 0 ≤ c) (c1 : c ≤ 1000000000) (hs : Hid (a + b + c = s)) : Calls Try.prog 30 #[.agg #[.int .i64 a, .int .i64 b, .int .i64 c]] w fun e w' => e = .returned (.int .i64 s) ∧ Below w.heap.size w w' := by
  go_enter Try.func30, Try.ntmps30
  go_wp2
  go_ret
  exact ⟨ret_int hs.out, (by (repeat (first | (with_reducible refine Below.drew ?_) | (with_reducible refine below_drewN ?_ _) | (with_reducible refine Below.alloc ?_ (by first | omega | (simp; done) | (simp; omega) | (simp at *; omega)) _) | (with_reducible refine Below.setCell ?_ (by first | omega | (simp; done) | (simp; omega) | (simp at *; omega)) _) | (with_reducible exact Below.refl _ _) | (with_reducible assumption) | (with_reducible refine Below.trans ?_ (Below.mono (by assumption) (by first | omega | (simp; done) | (simp; omega) | (simp at *; omega)))))))⟩
theorem refSum_ok (a b c s : Int) (w : World) (h : Hid (conB a b c = true)) (hs : Hid (a + b + c = s)) : Calls Try.prog 30 #[.agg #[.int .i64 a, .int .i64 b, .int .i64 c]] w fun e w' => e = .returned (.int .i64 s) ∧ Below w.heap.size w w' := by
  obtain ⟨h1, h2, h3, h4⟩ := conB_iff.1 h.out
  exact refSum_b a b c s w h1 (by omega) h2 (by omega) h3 (by omega) hs
theorem conB_alt (a b c : Int) : conB a b c = (inB a 0 1000000000 && inB b 0 1000000000 && inB c 0 1000000000 && decide (a + b + c ≤ 1000000000)) := by
  rw [Bool.eq_iff_iff, conB_iff]
  simp only [Bool.and_eq_true, inB_iff, decide_eq_true_eq]
  omega
set_option maxHeartbeats 1000000 in
set_option maxRecDepth 100000 in
theorem refCheckContent_any (a b c E : Int) (w : World) (hE : Hid (conE a b c = E)) : Calls Try.prog 32 #[.agg #[.int .i64 a, .int .i64 b, .int .i64 c]] w fun e w' => e = .returned (.int .i64 E) ∧ Below w.heap.size w w' := by
  have hA := conB_alt a b c
  rcases inB_cases a 0 1000000000 with h1 | h1
  · rcases inB_cases b 0 1000000000 with h2 | h2
    · rcases inB_cases c 0 1000000000 with h3 | h3
      · obtain ⟨⟨a0, a1⟩, ⟨b0, b1⟩, c0, c1⟩ := And.intro (inB_iff.1 h1) (And.intro (inB_iff.1 h2) (inB_iff.1 h3))
        obtain ⟨s, hs⟩ : ∃ z, Hid (a + b + c = z) := ⟨_, Lib.hid rfl⟩
        rw [h1, h2, h3] at hA
        by_cases h4 : a + b + c ≤ 1000000000
        · have hr : Hid (E = 0) := Lib.hid (by rw [← hE.out]; exact conE_t (by rw [hA]; simpa using h4))
          have s1 : s ≤ 1000000000 := by rw [← hs.out]; exact h4
          clear hE hA h4
          go_enter Try.func32, Try.ntmps32
          go_wp2_with (first | (go_at_call 33; ((with_reducible refine (baseWithin_any _ _ _ _).mono ?_)); rintro e w' ⟨rfl, rfl⟩) | (go_at_call 30; ((with_reducible refine (refSum_b a b c s _ a0 a1 b0 b1 c0 c1 hs).mono ?_)); rintro e w1 ⟨rfl, hbw⟩; obtain ⟨hbc, hbf⟩ := bcell hbw; have hbs := hbw.size))
          go_ret
          exact ⟨ret_int hr.out.symm, (by (repeat (first | (with_reducible refine Below.drew ?_) | (with_reducible refine below_drewN ?_ _) | (with_reducible refine Below.alloc ?_ (by first | omega | (simp; done) | (simp; omega) | (simp at *; omega)) _) | (with_reducible refine Below.setCell ?_ (by first | omega | (simp; done) | (simp; omega) | (simp at *; omega)) _) | (with_reducible exact Below.refl _ _) | (with_reducible assumption) | (with_reducible refine Below.trans ?_ (Below.mono (by assumption) (by first | omega | (simp; done) | (simp; omega) | (simp at *; omega)))))))⟩
        · have hr : Hid (E = 2) := Lib.hid (by rw [← hE.out]; exact conE_f (by rw [hA]; simpa using h4))
          have s1 : 1000000000 < s := by rw [← hs.out]; omega
          clear hE hA h4
          go_enter Try.func32, Try.ntmps32
          go_wp2_with (first | (go_at_call 33; ((with_reducible refine (baseWithin_any _ _ _ _).mono ?_)); rintro e w' ⟨rfl, rfl⟩) | (go_at_call 30; ((with_reducible refine (refSum_b a b c s _ a0 a1 b0 b1 c0 c1 hs).mono ?_)); rintro e w1 ⟨rfl, hbw⟩; obtain ⟨hbc, hbf⟩ := bcell hbw; have hbs := hbw.size))
          go_ret
          exact ⟨ret_int hr.out.symm, (by (repeat (first | (with_reducible refine Below.drew ?_) | (with_reducible refine below_drewN ?_ _) | (with_reducible refine Below.alloc ?_ (by first | omega | (simp; done) | (simp; omega) | (simp at *; omega)) _) | (with_reducible refine Below.setCell ?_ (by first | omega | (simp; done) | (simp; omega) | (simp at *; omega)) _) | (with_reducible exact Below.refl _ _) | (with_reducible assumption) | (with_reducible refine Below.trans ?_ (Below.mono (by assumption) (by first | omega | (simp; done) | (simp; omega) | (simp at *; omega)))))))⟩
      · have hr : Hid (E = 2) := Lib.hid (by rw [← hE.out]; exact conE_f (by rw [hA, h1, h2, h3]; rfl))
        clear hE hA
        go_enter Try.func32, Try.ntmps32
        go_wp2_with (go_at_call 33; ((with_reducible refine (baseWithin_any _ _ _ _).mono ?_)); rintro e w' ⟨rfl, rfl⟩)
        go_ret
        exact ⟨ret_int hr.out.symm, (by (repeat (first | (with_reducible refine Below.drew ?_) | (with_reducible refine below_drewN ?_ _) | (with_reducible refine Below.alloc ?_ (by first | omega | (simp; done) | (simp; omega) | (simp at *; omega)) _) | (with_reducible refine Below.setCell ?_ (by first | omega | (simp; done) | (simp; omega) | (simp at *; omega)) _) | (with_reducible exact Below.refl _ _) | (with_reducible assumption) | (with_reducible refine Below.trans ?_ (Below.mono (by assumption) (by first | omega | (simp; done) | (simp; omega) | (simp at *; omega)))))))⟩
    · have hr : Hid (E = 2) := Lib.hid (by rw [← hE.out]; exact conE_f (by rw [hA, h1, h2]; rfl))
      clear hE hA
      go_enter Try.func32, Try.ntmps32
      go_wp2_with (go_at_call 33; ((with_reducible refine (baseWithin_any _ _ _ _).mono ?_)); rintro e w' ⟨rfl, rfl⟩)
      go_ret
      exact ⟨ret_int hr.out.symm, (by (repeat (first | (with_reducible refine Below.drew ?_) | (with_reducible refine below_drewN ?_ _) | (with_reducible refine Below.alloc ?_ (by first | omega | (simp; done) | (simp; omega) | (simp at *; omega)) _) | (with_reducible refine Below.setCell ?_ (by first | omega | (simp; done) | (simp; omega) | (simp at *; omega)) _) | (with_reducible exact Below.refl _ _) | (with_reducible assumption) | (with_reducible refine Below.trans ?_ (Below.mono (by assumption) (by first | omega | (simp; done) | (simp; omega) | (simp at *; omega)))))))⟩
  · have hr : Hid (E = 2) := Lib.hid (by rw [← hE.out]; exact conE_f (by rw [hA, h1]; rfl))
    clear hE hA
    go_enter Try.func32, Try.ntmps32
    go_wp2_with (go_at_call 33; ((with_reducible refine (baseWithin_any _ _ _ _).mono ?_)); rintro e w' ⟨rfl, rfl⟩)
    go_ret
    exact ⟨ret_int hr.out.symm, (by (repeat (first | (with_reducible refine Below.drew ?_) | (with_reducible refine below_drewN ?_ _) | (with_reducible refine Below.alloc ?_ (by first | omega | (simp; done) | (simp; omega) | (simp at *; omega)) _) | (with_reducible refine Below.setCell ?_ (by first | omega | (simp; done) | (simp; omega) | (simp at *; omega)) _) | (with_reducible exact Below.refl _ _) | (with_reducible assumption) | (with_reducible refine Below.trans ?_ (Below.mono (by assumption) (by first | omega | (simp; done) | (simp; omega) | (simp at *; omega)))))))⟩
/-- The error of a comparison; whether a content matches. -/
def mtE (a b c o h t : Int) : Int := if conB a b c = true then (if gasE o h = 0 then (if a + b + c = 0 then 11 else rngE t 0 1000) else gasE o h) else 2
def mtB (a b c o h t : Int) : Bool := decide (mtE a b c o h t = 0) && inB ((a + b + c) * o - 1000 * a) (-(t * (a + b + c))) (t * (a + b + c)) && inB ((a + b + c) * h - 1000 * b) (-(t * (a + b + c))) (t * (a + b + c))
theorem mtB_no {a b c o h t : Int} (h1 : mtE a b c o h t ≠ 0) : mtB a b c o h t = false := by unfold mtB; simp [h1]
/-- A greater tolerance matches as well. -/
theorem mtB_more {a b c o h t : Int} (hc : conB a b c = true) (t0 : 0 ≤ t) (h2 : mtE a b c o h (t + 1) = 0) (hb : mtB a b c o h t = true) : mtB a b c o h (t + 1) = true := by
  obtain ⟨a0, b0, c0, _⟩ := conB_iff.1 hc
  have hm : t * (a + b + c) ≤ (t + 1) * (a + b + c) := Int.mul_le_mul_of_nonneg_right (by omega) (by omega)
  unfold mtB at *
  simp only [Bool.and_eq_true, decide_eq_true_eq, inB_iff] at *
  obtain ⟨⟨_, p⟩, q⟩ := hb
  generalize t * (a + b + c) = M at *
  generalize (t + 1) * (a + b + c) = N at *
  exact ⟨⟨h2, by omega, by omega⟩, by omega, by omega⟩
theorem Matches_any (a b c o h t E : Int) (B : Bool) (w : World) (hE : Hid (mtE a b c o h t = E)) (hB : Hid (mtB a b c o h t = B)) : Calls Try.prog 41 #[.agg #[.int .i64 a, .int .i64 b, .int .i64 c], .agg #[.int .i64 o, .int .i64 h], .int .i64 t] w fun e w' => e = .returned (.tuple #[.bool B, .int .i64 E]) ∧ Below w.heap.size w w' := by
  have he := hE.out
  have hb := hB.out
  by_cases hz : mtE a b c o h t = 0
  · have hz' := hz
    unfold mtE at hz
    by_cases hc : conB a b c = true
    · rw [if_pos hc] at hz
      by_cases hg : gasE o h = 0
      · rw [if_pos hg] at hz
        by_cases hs : a + b + c = 0
        · rw [if_pos hs] at hz; omega
        · rw [if_neg hs] at hz
          obtain ⟨a0, b0, c0, s1⟩ := conB_iff.1 hc
          have ht : inB t 0 1000 = true := by
            rcases inB_cases t 0 1000 with h1 | h1
            · exact h1
            · rw [rngE_f h1] at hz; omega
          obtain ⟨t0, t1⟩ := inB_iff.1 ht
          rw [hz'] at he
          subst he
          unfold mtB at hb
          rw [hz'] at hb
          have := Matches_ok a b c o h t (a + b + c) (1000 - o - h) _ _ _ _ _ _ _ w _ _ (Lib.hid (conE_t hc)) (Lib.hid hc) (Lib.hid hg) (Lib.hid rfl) (Lib.hid rfl) (by simpa using hs) (by omega) s1 (Lib.hid hz) t0 t1 (Lib.hid ⟨rfl, rfl, rfl⟩) (Lib.hid ⟨rfl, rfl, rfl⟩) (Lib.hid rfl) (Lib.hid rfl) (Lib.hid rfl)
          rw [← hb]
          simpa using this
      · rw [if_neg hg] at hz; exact absurd hz hg
    · rw [if_neg hc] at hz; omega
  · rw [mtB_no hz] at hb
    subst hb
    unfold mtE at he hz
    by_cases hc : conB a b c = true
    · rw [if_pos hc] at he hz
      by_cases hg : gasE o h = 0
      · rw [if_pos hg] at he hz
        by_cases hs : a + b + c = 0
        · rw [if_pos hs] at he
          subst he
          exact Matches_zero a b c o h t w (Lib.hid (conE_t hc)) (Lib.hid hc) (Lib.hid hg) (Lib.hid hs)
        · rw [if_neg hs] at he hz
          have h2 : rngE t 0 1000 = 2 := by
            rcases inB_cases t 0 1000 with h1 | h1
            · exact absurd (rngE_t h1) hz
            · exact rngE_f h1
          rw [h2] at he
          subst he
          exact Matches_far a b c o h t (a + b + c) w (Lib.hid (conE_t hc)) (Lib.hid hc) (Lib.hid hg) (Lib.hid rfl) (by simpa using hs) (Lib.hid h2)
      · rw [if_neg hg] at he
        subst he
        exact Matches_bad a b c o h t 0 (gasE o h) (gasE o h) w (Lib.hid (conE_t hc)) (Lib.hid rfl) (Lib.hid (by unfold firE; rw [if_pos rfl]; unfold firE; rw [if_neg hg])) (by simpa using hg)
    · rw [if_neg hc] at he
      subst he
      exact Matches_bad a b c o h t 2 (gasE o h) 2 w (Lib.hid (conE_f (by simpa using hc))) (Lib.hid rfl) (Lib.hid rfl) rfl
theorem refCheckGas_x (o h r : Int) (w : World) (hr : Hid (gasE o h = r)) :
    Calls Try.prog 79 #[.agg #[.int .i64 o, .int .i64 h]] w fun e w' => e = .returned (.int .i64 r) ∧ Below w.heap.size w w' := by
  rw [← hr.out]
  exact (refCheckGas_any o h w).mono fun e w' ⟨h1, h2⟩ => ⟨h1, by first | exact h2 | (rw [← h2]; (repeat (first | (with_reducible refine Below.drew ?_) | (with_reducible refine below_drewN ?_ _) | (with_reducible refine Below.alloc ?_ (by first | omega | (simp; done) | (simp; omega) | (simp at *; omega)) _) | (with_reducible refine Below.setCell ?_ (by first | omega | (simp; done) | (simp; omega) | (simp at *; omega)) _) | (with_reducible exact Below.refl _ _) | (with_reducible assumption) | (with_reducible refine Below.trans ?_ (Below.mono (by assumption) (by first | omega | (simp; done) | (simp; omega) | (simp at *; omega)))))))⟩
set_option maxHeartbeats 2000000 in
set_option maxRecDepth 100000 in
theorem refMatches_b1 (a b c o h t E : Int) (w : World) (hE : Hid (conE a b c = E)) (hz : (E != 0) = true) : Calls Try.prog 42 #[.agg #[.int .i64 a, .int .i64 b, .int .i64 c], .agg #[.int .i64 o, .int .i64 h], .int .i64 t] w fun e w' => e = .returned (.tuple #[.bool false, .int .i64 E]) ∧ Below w.heap.size w w' := by
  go_enter Try.func42, Try.ntmps42
  go_wp2_with fail
  refine (refCheckContent_any a b c E _ hE).mono ?_
  rintro e xw1 ⟨rfl, hbx1⟩
  have zx1 := hbx1.size
  try simp at zx1
  obtain ⟨x1_0_0, x1_0_1, x1_0_2, x1_1_0, x1_1_1⟩ : xw1.cell? ⟨w.heap.size, 0, none⟩ = some (.int .i64 a) ∧ xw1.cell? ⟨w.heap.size, 1, none⟩ = some (.int .i64 b) ∧ xw1.cell? ⟨w.heap.size, 2, none⟩ = some (.int .i64 c) ∧ xw1.cell? ⟨w.heap.size + 1, 0, none⟩ = some (.int .i64 o) ∧ xw1.cell? ⟨w.heap.size + 1, 1, none⟩ = some (.int .i64 h) := by refine ⟨?_, ?_, ?_, ?_, ?_⟩ <;> (rw [(bcell hbx1).1 _ _ (by first | (simp; done) | (simp; omega) | omega)]; simp [go_sem, World.cell?_alloc_past, *])
  obtain ⟨x1o0, x1n0, x1t0_0, x1o1, x1n1, x1t1_0⟩ : w.heap.size < xw1.heap.size ∧ xw1.heap.size ≠ w.heap.size ∧ w.heap.size < xw1.heap.size + 1 ∧ w.heap.size + 1 < xw1.heap.size ∧ xw1.heap.size ≠ w.heap.size + 1 ∧ w.heap.size + 1 < xw1.heap.size + 1 := by refine ⟨?_, ?_, ?_, ?_, ?_, ?_⟩ <;> omega
  have hBx1 : Below w.heap.size w xw1 := (by (repeat (first | (with_reducible refine Below.drew ?_) | (with_reducible refine below_drewN ?_ _) | (with_reducible refine Below.alloc ?_ (by first | omega | (simp; done) | (simp; omega) | (simp at *; omega)) _) | (with_reducible refine Below.setCell ?_ (by first | omega | (simp; done) | (simp; omega) | (simp at *; omega)) _) | (with_reducible exact Below.refl _ _) | (with_reducible assumption) | (with_reducible refine Below.trans ?_ (Below.mono (by assumption) (by first | omega | (simp; done) | (simp; omega) | (simp at *; omega)))))))
  clear hbx1 
  go_wp2
  go_ret2
  exact ⟨rfl, (by (repeat (first | (with_reducible refine Below.drew ?_) | (with_reducible refine below_drewN ?_ _) | (with_reducible refine Below.alloc ?_ (by first | omega | (simp; done) | (simp; omega) | (simp at *; omega)) _) | (with_reducible refine Below.setCell ?_ (by first | omega | (simp; done) | (simp; omega) | (simp at *; omega)) _) | (with_reducible exact Below.refl _ _) | (with_reducible assumption) | (with_reducible refine Below.trans ?_ (Below.mono (by assumption) (by first | omega | (simp; done) | (simp; omega) | (simp at *; omega)))))))⟩
set_option maxHeartbeats 2000000 in
set_option maxRecDepth 100000 in
theorem refMatches_b2 (a b c o h t E : Int) (w : World) (hE : Hid (conE a b c = 0)) (hG : Hid (gasE o h = E)) (hz : (E != 0) = true) : Calls Try.prog 42 #[.agg #[.int .i64 a, .int .i64 b, .int .i64 c], .agg #[.int .i64 o, .int .i64 h], .int .i64 t] w fun e w' => e = .returned (.tuple #[.bool false, .int .i64 E]) ∧ Below w.heap.size w w' := by
  go_enter Try.func42, Try.ntmps42
  go_wp2_with fail
  refine (refCheckContent_any a b c 0 _ hE).mono ?_
  rintro e xw1 ⟨rfl, hbx1⟩
  have zx1 := hbx1.size
  try simp at zx1
  obtain ⟨x1_0_0, x1_0_1, x1_0_2, x1_1_0, x1_1_1⟩ : xw1.cell? ⟨w.heap.size, 0, none⟩ = some (.int .i64 a) ∧ xw1.cell? ⟨w.heap.size, 1, none⟩ = some (.int .i64 b) ∧ xw1.cell? ⟨w.heap.size, 2, none⟩ = some (.int .i64 c) ∧ xw1.cell? ⟨w.heap.size + 1, 0, none⟩ = some (.int .i64 o) ∧ xw1.cell? ⟨w.heap.size + 1, 1, none⟩ = some (.int .i64 h) := by refine ⟨?_, ?_, ?_, ?_, ?_⟩ <;> (rw [(bcell hbx1).1 _ _ (by first | (simp; done) | (simp; omega) | omega)]; simp [go_sem, World.cell?_alloc_past, *])
  obtain ⟨x1o0, x1n0, x1t0_0, x1o1, x1n1, x1t1_0⟩ : w.heap.size < xw1.heap.size ∧ xw1.heap.size ≠ w.heap.size ∧ w.heap.size < xw1.heap.size + 1 ∧ w.heap.size + 1 < xw1.heap.size ∧ xw1.heap.size ≠ w.heap.size + 1 ∧ w.heap.size + 1 < xw1.heap.size + 1 := by refine ⟨?_, ?_, ?_, ?_, ?_, ?_⟩ <;> omega
  have hBx1 : Below w.heap.size w xw1 := (by (repeat (first | (with_reducible refine Below.drew ?_) | (with_reducible refine below_drewN ?_ _) | (with_reducible refine Below.alloc ?_ (by first | omega | (simp; done) | (simp; omega) | (simp at *; omega)) _) | (with_reducible refine Below.setCell ?_ (by first | omega | (simp; done) | (simp; omega) | (simp at *; omega)) _) | (with_reducible exact Below.refl _ _) | (with_reducible assumption) | (with_reducible refine Below.trans ?_ (Below.mono (by assumption) (by first | omega | (simp; done) | (simp; omega) | (simp at *; omega)))))))
  clear hbx1 
  go_wp2_with fail
  refine (refCheckGas_x o h E _ hG).mono ?_
  rintro e xw2 ⟨rfl, hbx2⟩
  have zx2 := hbx2.size
  try simp at zx2
  obtain ⟨x2_0_0, x2_0_1, x2_0_2, x2_1_0, x2_1_1⟩ : xw2.cell? ⟨w.heap.size, 0, none⟩ = some (.int .i64 a) ∧ xw2.cell? ⟨w.heap.size, 1, none⟩ = some (.int .i64 b) ∧ xw2.cell? ⟨w.heap.size, 2, none⟩ = some (.int .i64 c) ∧ xw2.cell? ⟨w.heap.size + 1, 0, none⟩ = some (.int .i64 o) ∧ xw2.cell? ⟨w.heap.size + 1, 1, none⟩ = some (.int .i64 h) := by refine ⟨?_, ?_, ?_, ?_, ?_⟩ <;> (rw [(bcell hbx2).1 _ _ (by first | (simp; done) | (simp; omega) | omega)]; simp [go_sem, World.cell?_alloc_past, *])
  obtain ⟨x2o0, x2n0, x2t0_0, x2o1, x2n1, x2t1_0⟩ : w.heap.size < xw2.heap.size ∧ xw2.heap.size ≠ w.heap.size ∧ w.heap.size < xw2.heap.size + 1 ∧ w.heap.size + 1 < xw2.heap.size ∧ xw2.heap.size ≠ w.heap.size + 1 ∧ w.heap.size + 1 < xw2.heap.size + 1 := by refine ⟨?_, ?_, ?_, ?_, ?_, ?_⟩ <;> omega
  have hBx2 : Below w.heap.size w xw2 := (by (repeat (first | (with_reducible refine Below.drew ?_) | (with_reducible refine below_drewN ?_ _) | (with_reducible refine Below.alloc ?_ (by first | omega | (simp; done) | (simp; omega) | (simp at *; omega)) _) | (with_reducible refine Below.setCell ?_ (by first | omega | (simp; done) | (simp; omega) | (simp at *; omega)) _) | (with_reducible exact Below.refl _ _) | (with_reducible assumption) | (with_reducible refine Below.trans ?_ (Below.mono (by assumption) (by first | omega | (simp; done) | (simp; omega) | (simp at *; omega)))))))
  clear hbx2 x1_0_0 x1_0_1 x1_0_2 x1_1_0 x1_1_1 x1o0 x1n0 x1t0_0 x1o1 x1n1 x1t1_0 hBx1
  go_wp2
  go_ret2
  exact ⟨rfl, (by (repeat (first | (with_reducible refine Below.drew ?_) | (with_reducible refine below_drewN ?_ _) | (with_reducible refine Below.alloc ?_ (by first | omega | (simp; done) | (simp; omega) | (simp at *; omega)) _) | (with_reducible refine Below.setCell ?_ (by first | omega | (simp; done) | (simp; omega) | (simp at *; omega)) _) | (with_reducible exact Below.refl _ _) | (with_reducible assumption) | (with_reducible refine Below.trans ?_ (Below.mono (by assumption) (by first | omega | (simp; done) | (simp; omega) | (simp at *; omega)))))))⟩
set_option maxHeartbeats 2000000 in
set_option maxRecDepth 100000 in
theorem refMatches_zero (a b c o h t : Int) (w : World) (hE : Hid (conE a b c = 0)) (hc : Hid (conB a b c = true)) (hG : Hid (gasE o h = 0)) (hS : Hid (a + b + c = 0)) : Calls Try.prog 42 #[.agg #[.int .i64 a, .int .i64 b, .int .i64 c], .agg #[.int .i64 o, .int .i64 h], .int .i64 t] w fun e w' => e = .returned (.tuple #[.bool false, .int .i64 11]) ∧ Below w.heap.size w w' := by
  go_enter Try.func42, Try.ntmps42
  go_wp2_with fail
  refine (refCheckContent_any a b c 0 _ hE).mono ?_
  rintro e xw1 ⟨rfl, hbx1⟩
  have zx1 := hbx1.size
  try simp at zx1
  obtain ⟨x1_0_0, x1_0_1, x1_0_2, x1_1_0, x1_1_1⟩ : xw1.cell? ⟨w.heap.size, 0, none⟩ = some (.int .i64 a) ∧ xw1.cell? ⟨w.heap.size, 1, none⟩ = some (.int .i64 b) ∧ xw1.cell? ⟨w.heap.size, 2, none⟩ = some (.int .i64 c) ∧ xw1.cell? ⟨w.heap.size + 1, 0, none⟩ = some (.int .i64 o) ∧ xw1.cell? ⟨w.heap.size + 1, 1, none⟩ = some (.int .i64 h) := by refine ⟨?_, ?_, ?_, ?_, ?_⟩ <;> (rw [(bcell hbx1).1 _ _ (by first | (simp; done) | (simp; omega) | omega)]; simp [go_sem, World.cell?_alloc_past, *])
  obtain ⟨x1o0, x1n0, x1t0_0, x1o1, x1n1, x1t1_0⟩ : w.heap.size < xw1.heap.size ∧ xw1.heap.size ≠ w.heap.size ∧ w.heap.size < xw1.heap.size + 1 ∧ w.heap.size + 1 < xw1.heap.size ∧ xw1.heap.size ≠ w.heap.size + 1 ∧ w.heap.size + 1 < xw1.heap.size + 1 := by refine ⟨?_, ?_, ?_, ?_, ?_, ?_⟩ <;> omega
  have hBx1 : Below w.heap.size w xw1 := (by (repeat (first | (with_reducible refine Below.drew ?_) | (with_reducible refine below_drewN ?_ _) | (with_reducible refine Below.alloc ?_ (by first | omega | (simp; done) | (simp; omega) | (simp at *; omega)) _) | (with_reducible refine Below.setCell ?_ (by first | omega | (simp; done) | (simp; omega) | (simp at *; omega)) _) | (with_reducible exact Below.refl _ _) | (with_reducible assumption) | (with_reducible refine Below.trans ?_ (Below.mono (by assumption) (by first | omega | (simp; done) | (simp; omega) | (simp at *; omega)))))))
  clear hbx1 
  go_wp2_with fail
  refine (refCheckGas_x o h 0 _ hG).mono ?_
  rintro e xw2 ⟨rfl, hbx2⟩
  have zx2 := hbx2.size
  try simp at zx2
  obtain ⟨x2_0_0, x2_0_1, x2_0_2, x2_1_0, x2_1_1⟩ : xw2.cell? ⟨w.heap.size, 0, none⟩ = some (.int .i64 a) ∧ xw2.cell? ⟨w.heap.size, 1, none⟩ = some (.int .i64 b) ∧ xw2.cell? ⟨w.heap.size, 2, none⟩ = some (.int .i64 c) ∧ xw2.cell? ⟨w.heap.size + 1, 0, none⟩ = some (.int .i64 o) ∧ xw2.cell? ⟨w.heap.size + 1, 1, none⟩ = some (.int .i64 h) := by refine ⟨?_, ?_, ?_, ?_, ?_⟩ <;> (rw [(bcell hbx2).1 _ _ (by first | (simp; done) | (simp; omega) | omega)]; simp [go_sem, World.cell?_alloc_past, *])
  obtain ⟨x2o0, x2n0, x2t0_0, x2o1, x2n1, x2t1_0⟩ : w.heap.size < xw2.heap.size ∧ xw2.heap.size ≠ w.heap.size ∧ w.heap.size < xw2.heap.size + 1 ∧ w.heap.size + 1 < xw2.heap.size ∧ xw2.heap.size ≠ w.heap.size + 1 ∧ w.heap.size + 1 < xw2.heap.size + 1 := by refine ⟨?_, ?_, ?_, ?_, ?_, ?_⟩ <;> omega
  have hBx2 : Below w.heap.size w xw2 := (by (repeat (first | (with_reducible refine Below.drew ?_) | (with_reducible refine below_drewN ?_ _) | (with_reducible refine Below.alloc ?_ (by first | omega | (simp; done) | (simp; omega) | (simp at *; omega)) _) | (with_reducible refine Below.setCell ?_ (by first | omega | (simp; done) | (simp; omega) | (simp at *; omega)) _) | (with_reducible exact Below.refl _ _) | (with_reducible assumption) | (with_reducible refine Below.trans ?_ (Below.mono (by assumption) (by first | omega | (simp; done) | (simp; omega) | (simp at *; omega)))))))
  clear hbx2 x1_0_0 x1_0_1 x1_0_2 x1_1_0 x1_1_1 x1o0 x1n0 x1t0_0 x1o1 x1n1 x1t1_0 hBx1
  go_wp2_with fail
  refine (refSum_ok a b c 0 _ hc hS).mono ?_
  rintro e xw3 ⟨rfl, hbx3⟩
  have zx3 := hbx3.size
  try simp at zx3
  obtain ⟨x3_0_0, x3_0_1, x3_0_2, x3_1_0, x3_1_1⟩ : xw3.cell? ⟨w.heap.size, 0, none⟩ = some (.int .i64 a) ∧ xw3.cell? ⟨w.heap.size, 1, none⟩ = some (.int .i64 b) ∧ xw3.cell? ⟨w.heap.size, 2, none⟩ = some (.int .i64 c) ∧ xw3.cell? ⟨w.heap.size + 1, 0, none⟩ = some (.int .i64 o) ∧ xw3.cell? ⟨w.heap.size + 1, 1, none⟩ = some (.int .i64 h) := by refine ⟨?_, ?_, ?_, ?_, ?_⟩ <;> (rw [(bcell hbx3).1 _ _ (by first | (simp; done) | (simp; omega) | omega)]; simp [go_sem, World.cell?_alloc_past, *])
  obtain ⟨x3o0, x3n0, x3t0_0, x3o1, x3n1, x3t1_0⟩ : w.heap.size < xw3.heap.size ∧ xw3.heap.size ≠ w.heap.size ∧ w.heap.size < xw3.heap.size + 1 ∧ w.heap.size + 1 < xw3.heap.size ∧ xw3.heap.size ≠ w.heap.size + 1 ∧ w.heap.size + 1 < xw3.heap.size + 1 := by refine ⟨?_, ?_, ?_, ?_, ?_, ?_⟩ <;> omega
  have hBx3 : Below w.heap.size w xw3 := (by (repeat (first | (with_reducible refine Below.drew ?_) | (with_reducible refine below_drewN ?_ _) | (with_reducible refine Below.alloc ?_ (by first | omega | (simp; done) | (simp; omega) | (simp at *; omega)) _) | (with_reducible refine Below.setCell ?_ (by first | omega | (simp; done) | (simp; omega) | (simp at *; omega)) _) | (with_reducible exact Below.refl _ _) | (with_reducible assumption) | (with_reducible refine Below.trans ?_ (Below.mono (by assumption) (by first | omega | (simp; done) | (simp; omega) | (simp at *; omega)))))))
  clear hbx3 x2_0_0 x2_0_1 x2_0_2 x2_1_0 x2_1_1 x2o0 x2n0 x2t0_0 x2o1 x2n1 x2t1_0 hBx2
  go_wp2
  go_ret2
  exact ⟨rfl, (by (repeat (first | (with_reducible refine Below.drew ?_) | (with_reducible refine below_drewN ?_ _) | (with_reducible refine Below.alloc ?_ (by first | omega | (simp; done) | (simp; omega) | (simp at *; omega)) _) | (with_reducible refine Below.setCell ?_ (by first | omega | (simp; done) | (simp; omega) | (simp at *; omega)) _) | (with_reducible exact Below.refl _ _) | (with_reducible assumption) | (with_reducible refine Below.trans ?_ (Below.mono (by assumption) (by first | omega | (simp; done) | (simp; omega) | (simp at *; omega)))))))⟩
set_option maxHeartbeats 2000000 in
set_option maxRecDepth 100000 in
theorem refMatches_far (a b c o h t S : Int) (w : World) (hE : Hid (conE a b c = 0)) (hc : Hid (conB a b c = true)) (hG : Hid (gasE o h = 0)) (hS : Hid (a + b + c = S)) (hSn : (S == 0) = false) (ht : Hid (inB t 0 1000 = false)) : Calls Try.prog 42 #[.agg #[.int .i64 a, .int .i64 b, .int .i64 c], .agg #[.int .i64 o, .int .i64 h], .int .i64 t] w fun e w' => e = .returned (.tuple #[.bool false, .int .i64 2]) ∧ Below w.heap.size w w' := by
  have hi : inB t 0 1000 = false := ht.out
  go_enter Try.func42, Try.ntmps42
  go_wp2_with fail
  refine (refCheckContent_any a b c 0 _ hE).mono ?_
  rintro e xw1 ⟨rfl, hbx1⟩
  have zx1 := hbx1.size
  try simp at zx1
  obtain ⟨x1_0_0, x1_0_1, x1_0_2, x1_1_0, x1_1_1⟩ : xw1.cell? ⟨w.heap.size, 0, none⟩ = some (.int .i64 a) ∧ xw1.cell? ⟨w.heap.size, 1, none⟩ = some (.int .i64 b) ∧ xw1.cell? ⟨w.heap.size, 2, none⟩ = some (.int .i64 c) ∧ xw1.cell? ⟨w.heap.size + 1, 0, none⟩ = some (.int .i64 o) ∧ xw1.cell? ⟨w.heap.size + 1, 1, none⟩ = some (.int .i64 h) := by refine ⟨?_, ?_, ?_, ?_, ?_⟩ <;> (rw [(bcell hbx1).1 _ _ (by first | (simp; done) | (simp; omega) | omega)]; simp [go_sem, World.cell?_alloc_past, *])
  obtain ⟨x1o0, x1n0, x1t0_0, x1o1, x1n1, x1t1_0⟩ : w.heap.size < xw1.heap.size ∧ xw1.heap.size ≠ w.heap.size ∧ w.heap.size < xw1.heap.size + 1 ∧ w.heap.size + 1 < xw1.heap.size ∧ xw1.heap.size ≠ w.heap.size + 1 ∧ w.heap.size + 1 < xw1.heap.size + 1 := by refine ⟨?_, ?_, ?_, ?_, ?_, ?_⟩ <;> omega
  have hBx1 : Below w.heap.size w xw1 := (by (repeat (first | (with_reducible refine Below.drew ?_) | (with_reducible refine below_drewN ?_ _) | (with_reducible refine Below.alloc ?_ (by first | omega | (simp; done) | (simp; omega) | (simp at *; omega)) _) | (with_reducible refine Below.setCell ?_ (by first | omega | (simp; done) | (simp; omega) | (simp at *; omega)) _) | (with_reducible exact Below.refl _ _) | (with_reducible assumption) | (with_reducible refine Below.trans ?_ (Below.mono (by assumption) (by first | omega | (simp; done) | (simp; omega) | (simp at *; omega)))))))
  clear hbx1 
  go_wp2_with fail
  refine (refCheckGas_x o h 0 _ hG).mono ?_
  rintro e xw2 ⟨rfl, hbx2⟩
  have zx2 := hbx2.size
  try simp at zx2
  obtain ⟨x2_0_0, x2_0_1, x2_0_2, x2_1_0, x2_1_1⟩ : xw2.cell? ⟨w.heap.size, 0, none⟩ = some (.int .i64 a) ∧ xw2.cell? ⟨w.heap.size, 1, none⟩ = some (.int .i64 b) ∧ xw2.cell? ⟨w.heap.size, 2, none⟩ = some (.int .i64 c) ∧ xw2.cell? ⟨w.heap.size + 1, 0, none⟩ = some (.int .i64 o) ∧ xw2.cell? ⟨w.heap.size + 1, 1, none⟩ = some (.int .i64 h) := by refine ⟨?_, ?_, ?_, ?_, ?_⟩ <;> (rw [(bcell hbx2).1 _ _ (by first | (simp; done) | (simp; omega) | omega)]; simp [go_sem, World.cell?_alloc_past, *])
  obtain ⟨x2o0, x2n0, x2t0_0, x2o1, x2n1, x2t1_0⟩ : w.heap.size < xw2.heap.size ∧ xw2.heap.size ≠ w.heap.size ∧ w.heap.size < xw2.heap.size + 1 ∧ w.heap.size + 1 < xw2.heap.size ∧ xw2.heap.size ≠ w.heap.size + 1 ∧ w.heap.size + 1 < xw2.heap.size + 1 := by refine ⟨?_, ?_, ?_, ?_, ?_, ?_⟩ <;> omega
  have hBx2 : Below w.heap.size w xw2 := (by (repeat (first | (with_reducible refine Below.drew ?_) | (with_reducible refine below_drewN ?_ _) | (with_reducible refine Below.alloc ?_ (by first | omega | (simp; done) | (simp; omega) | (simp at *; omega)) _) | (with_reducible refine Below.setCell ?_ (by first | omega | (simp; done) | (simp; omega) | (simp at *; omega)) _) | (with_reducible exact Below.refl _ _) | (with_reducible assumption) | (with_reducible refine Below.trans ?_ (Below.mono (by assumption) (by first | omega | (simp; done) | (simp; omega) | (simp at *; omega)))))))
  clear hbx2 x1_0_0 x1_0_1 x1_0_2 x1_1_0 x1_1_1 x1o0 x1n0 x1t0_0 x1o1 x1n1 x1t1_0 hBx1
  go_wp2_with fail
  refine (refSum_ok a b c S _ hc hS).mono ?_
  rintro e xw3 ⟨rfl, hbx3⟩
  have zx3 := hbx3.size
  try simp at zx3
  obtain ⟨x3_0_0, x3_0_1, x3_0_2, x3_1_0, x3_1_1⟩ : xw3.cell? ⟨w.heap.size, 0, none⟩ = some (.int .i64 a) ∧ xw3.cell? ⟨w.heap.size, 1, none⟩ = some (.int .i64 b) ∧ xw3.cell? ⟨w.heap.size, 2, none⟩ = some (.int .i64 c) ∧ xw3.cell? ⟨w.heap.size + 1, 0, none⟩ = some (.int .i64 o) ∧ xw3.cell? ⟨w.heap.size + 1, 1, none⟩ = some (.int .i64 h) := by refine ⟨?_, ?_, ?_, ?_, ?_⟩ <;> (rw [(bcell hbx3).1 _ _ (by first | (simp; done) | (simp; omega) | omega)]; simp [go_sem, World.cell?_alloc_past, *])
  obtain ⟨x3o0, x3n0, x3t0_0, x3o1, x3n1, x3t1_0⟩ : w.heap.size < xw3.heap.size ∧ xw3.heap.size ≠ w.heap.size ∧ w.heap.size < xw3.heap.size + 1 ∧ w.heap.size + 1 < xw3.heap.size ∧ xw3.heap.size ≠ w.heap.size + 1 ∧ w.heap.size + 1 < xw3.heap.size + 1 := by refine ⟨?_, ?_, ?_, ?_, ?_, ?_⟩ <;> omega
  have hBx3 : Below w.heap.size w xw3 := (by (repeat (first | (with_reducible refine Below.drew ?_) | (with_reducible refine below_drewN ?_ _) | (with_reducible refine Below.alloc ?_ (by first | omega | (simp; done) | (simp; omega) | (simp at *; omega)) _) | (with_reducible refine Below.setCell ?_ (by first | omega | (simp; done) | (simp; omega) | (simp at *; omega)) _) | (with_reducible exact Below.refl _ _) | (with_reducible assumption) | (with_reducible refine Below.trans ?_ (Below.mono (by assumption) (by first | omega | (simp; done) | (simp; omega) | (simp at *; omega)))))))
  clear hbx3 x2_0_0 x2_0_1 x2_0_2 x2_1_0 x2_1_1 x2o0 x2n0 x2t0_0 x2o1 x2n1 x2t1_0 hBx2
  go_wp2_with (go_at_call 33; ((with_reducible refine (baseWithin_any _ _ _ _).mono ?_)); rintro e w' ⟨rfl, rfl⟩)
  go_ret2
  exact ⟨rfl, (by (repeat (first | (with_reducible refine Below.drew ?_) | (with_reducible refine below_drewN ?_ _) | (with_reducible refine Below.alloc ?_ (by first | omega | (simp; done) | (simp; omega) | (simp at *; omega)) _) | (with_reducible refine Below.setCell ?_ (by first | omega | (simp; done) | (simp; omega) | (simp at *; omega)) _) | (with_reducible exact Below.refl _ _) | (with_reducible assumption) | (with_reducible refine Below.trans ?_ (Below.mono (by assumption) (by first | omega | (simp; done) | (simp; omega) | (simp at *; omega)))))))⟩
set_option maxHeartbeats 2000000 in
set_option maxRecDepth 100000 in
theorem refMatches_true (a b c o h t S P Q X Y M : Int) (w : World) (p2 : Bool) (hE : Hid (conE a b c = 0)) (hc : Hid (conB a b c = true)) (hG : Hid (gasE o h = 0)) (hS : Hid (a + b + c = S)) (hSn : (S == 0) = false) (s0 : 0 ≤ S) (s1 : S ≤ 1000000000) (ht : Hid (inB t 0 1000 = true)) (t0 : 0 ≤ t) (t1 : t ≤ 1000) (hP : Hid (o * S = P ∧ h * S = Q)) (hX : Hid (1000 * a - P = X ∧ 1000 * b - Q = Y)) (hM : Hid (t * S = M)) (hp1 : Hid (inB X (-M) M = true)) (hp2 : Hid (inB Y (-M) M = p2)) : Calls Try.prog 42 #[.agg #[.int .i64 a, .int .i64 b, .int .i64 c], .agg #[.int .i64 o, .int .i64 h], .int .i64 t] w fun e w' => e = .returned (.tuple #[.bool p2, .int .i64 0]) ∧ Below w.heap.size w w' := by
  have hi : inB t 0 1000 = true := ht.out
  obtain ⟨a0, b0, c0, s2⟩ := conB_iff.1 hc.out
  obtain ⟨o0, o1, h0, h1, oh⟩ := gasE_zF hG.out
  have m0 : 0 ≤ t * S ∧ t * S ≤ 1000000000000 := ⟨Int.mul_nonneg t0 s0, Int.le_trans (Int.mul_le_mul t1 s1 s0 (by omega)) (by omega)⟩
  have pb : ∀ k : Int, 0 ≤ k → k ≤ 1000 → 0 ≤ k * S ∧ k * S ≤ 1000000000000 := fun k g1 g2 => ⟨Int.mul_nonneg g1 s0, Int.le_trans (Int.mul_le_mul g2 s1 s0 (by omega)) (by omega)⟩
  have p0 := pb o o0 o1
  have q0 := pb h h0 h1
  rw [hM.out] at m0
  rw [hP.out.1] at p0
  rw [hP.out.2] at q0
  obtain ⟨m0, m1⟩ := m0
  have wM : IntKind.i64.wrap (t * S) = M := by rw [hM.out]; exact IntWalk.i64_in _ (by omega)
  have wM2 : wrap64 (t * S) = M := (IntWalk.i64_left _).symm.trans wM
  have wN : IntKind.i64.wrap (-M) = -M := IntWalk.i64_in _ (by omega)
  have wP : IntKind.i64.wrap (o * S) = P := by rw [hP.out.1]; exact IntWalk.i64_in _ (by omega)
  have wQ : IntKind.i64.wrap (h * S) = Q := by rw [hP.out.2]; exact IntWalk.i64_in _ (by omega)
  have wa : IntKind.i64.wrap (1000 * a) = 1000 * a := IntWalk.i64_in _ (by omega)
  have wb : IntKind.i64.wrap (1000 * b) = 1000 * b := IntWalk.i64_in _ (by omega)
  have wX : IntKind.i64.wrap (1000 * a - P) = X := by rw [hX.out.1]; exact IntWalk.i64_in _ (by have := hX.out.1; omega)
  have wY : IntKind.i64.wrap (1000 * b - Q) = Y := by rw [hX.out.2]; exact IntWalk.i64_in _ (by have := hX.out.2; omega)
  have q1 := hp1.out
  have q2 := hp2.out
  clear pb hP hX hM
  go_enter Try.func42, Try.ntmps42
  go_wp2_with fail
  refine (refCheckContent_any a b c 0 _ hE).mono ?_
  rintro e xw1 ⟨rfl, hbx1⟩
  have zx1 := hbx1.size
  try simp at zx1
  obtain ⟨x1_0_0, x1_0_1, x1_0_2, x1_1_0, x1_1_1⟩ : xw1.cell? ⟨w.heap.size, 0, none⟩ = some (.int .i64 a) ∧ xw1.cell? ⟨w.heap.size, 1, none⟩ = some (.int .i64 b) ∧ xw1.cell? ⟨w.heap.size, 2, none⟩ = some (.int .i64 c) ∧ xw1.cell? ⟨w.heap.size + 1, 0, none⟩ = some (.int .i64 o) ∧ xw1.cell? ⟨w.heap.size + 1, 1, none⟩ = some (.int .i64 h) := by refine ⟨?_, ?_, ?_, ?_, ?_⟩ <;> (rw [(bcell hbx1).1 _ _ (by first | (simp; done) | (simp; omega) | omega)]; simp [go_sem, World.cell?_alloc_past, *])
  obtain ⟨x1o0, x1n0, x1t0_0, x1o1, x1n1, x1t1_0⟩ : w.heap.size < xw1.heap.size ∧ xw1.heap.size ≠ w.heap.size ∧ w.heap.size < xw1.heap.size + 1 ∧ w.heap.size + 1 < xw1.heap.size ∧ xw1.heap.size ≠ w.heap.size + 1 ∧ w.heap.size + 1 < xw1.heap.size + 1 := by refine ⟨?_, ?_, ?_, ?_, ?_, ?_⟩ <;> omega
  have hBx1 : Below w.heap.size w xw1 := (by (repeat (first | (with_reducible refine Below.drew ?_) | (with_reducible refine below_drewN ?_ _) | (with_reducible refine Below.alloc ?_ (by first | omega | (simp; done) | (simp; omega) | (simp at *; omega)) _) | (with_reducible refine Below.setCell ?_ (by first | omega | (simp; done) | (simp; omega) | (simp at *; omega)) _) | (with_reducible exact Below.refl _ _) | (with_reducible assumption) | (with_reducible refine Below.trans ?_ (Below.mono (by assumption) (by first | omega | (simp; done) | (simp; omega) | (simp at *; omega)))))))
  clear hbx1 
  go_wp2_with fail
  refine (refCheckGas_x o h 0 _ hG).mono ?_
  rintro e xw2 ⟨rfl, hbx2⟩
  have zx2 := hbx2.size
  try simp at zx2
  obtain ⟨x2_0_0, x2_0_1, x2_0_2, x2_1_0, x2_1_1⟩ : xw2.cell? ⟨w.heap.size, 0, none⟩ = some (.int .i64 a) ∧ xw2.cell? ⟨w.heap.size, 1, none⟩ = some (.int .i64 b) ∧ xw2.cell? ⟨w.heap.size, 2, none⟩ = some (.int .i64 c) ∧ xw2.cell? ⟨w.heap.size + 1, 0, none⟩ = some (.int .i64 o) ∧ xw2.cell? ⟨w.heap.size + 1, 1, none⟩ = some (.int .i64 h) := by refine ⟨?_, ?_, ?_, ?_, ?_⟩ <;> (rw [(bcell hbx2).1 _ _ (by first | (simp; done) | (simp; omega) | omega)]; simp [go_sem, World.cell?_alloc_past, *])
  obtain ⟨x2o0, x2n0, x2t0_0, x2o1, x2n1, x2t1_0⟩ : w.heap.size < xw2.heap.size ∧ xw2.heap.size ≠ w.heap.size ∧ w.heap.size < xw2.heap.size + 1 ∧ w.heap.size + 1 < xw2.heap.size ∧ xw2.heap.size ≠ w.heap.size + 1 ∧ w.heap.size + 1 < xw2.heap.size + 1 := by refine ⟨?_, ?_, ?_, ?_, ?_, ?_⟩ <;> omega
  have hBx2 : Below w.heap.size w xw2 := (by (repeat (first | (with_reducible refine Below.drew ?_) | (with_reducible refine below_drewN ?_ _) | (with_reducible refine Below.alloc ?_ (by first | omega | (simp; done) | (simp; omega) | (simp at *; omega)) _) | (with_reducible refine Below.setCell ?_ (by first | omega | (simp; done) | (simp; omega) | (simp at *; omega)) _) | (with_reducible exact Below.refl _ _) | (with_reducible assumption) | (with_reducible refine Below.trans ?_ (Below.mono (by assumption) (by first | omega | (simp; done) | (simp; omega) | (simp at *; omega)))))))
  clear hbx2 x1_0_0 x1_0_1 x1_0_2 x1_1_0 x1_1_1 x1o0 x1n0 x1t0_0 x1o1 x1n1 x1t1_0 hBx1
  go_wp2_with fail
  refine (refSum_ok a b c S _ hc hS).mono ?_
  rintro e xw3 ⟨rfl, hbx3⟩
  have zx3 := hbx3.size
  try simp at zx3
  obtain ⟨x3_0_0, x3_0_1, x3_0_2, x3_1_0, x3_1_1⟩ : xw3.cell? ⟨w.heap.size, 0, none⟩ = some (.int .i64 a) ∧ xw3.cell? ⟨w.heap.size, 1, none⟩ = some (.int .i64 b) ∧ xw3.cell? ⟨w.heap.size, 2, none⟩ = some (.int .i64 c) ∧ xw3.cell? ⟨w.heap.size + 1, 0, none⟩ = some (.int .i64 o) ∧ xw3.cell? ⟨w.heap.size + 1, 1, none⟩ = some (.int .i64 h) := by refine ⟨?_, ?_, ?_, ?_, ?_⟩ <;> (rw [(bcell hbx3).1 _ _ (by first | (simp; done) | (simp; omega) | omega)]; simp [go_sem, World.cell?_alloc_past, *])
  obtain ⟨x3o0, x3n0, x3t0_0, x3o1, x3n1, x3t1_0⟩ : w.heap.size < xw3.heap.size ∧ xw3.heap.size ≠ w.heap.size ∧ w.heap.size < xw3.heap.size + 1 ∧ w.heap.size + 1 < xw3.heap.size ∧ xw3.heap.size ≠ w.heap.size + 1 ∧ w.heap.size + 1 < xw3.heap.size + 1 := by refine ⟨?_, ?_, ?_, ?_, ?_, ?_⟩ <;> omega
  have hBx3 : Below w.heap.size w xw3 := (by (repeat (first | (with_reducible refine Below.drew ?_) | (with_reducible refine below_drewN ?_ _) | (with_reducible refine Below.alloc ?_ (by first | omega | (simp; done) | (simp; omega) | (simp at *; omega)) _) | (with_reducible refine Below.setCell ?_ (by first | omega | (simp; done) | (simp; omega) | (simp at *; omega)) _) | (with_reducible exact Below.refl _ _) | (with_reducible assumption) | (with_reducible refine Below.trans ?_ (Below.mono (by assumption) (by first | omega | (simp; done) | (simp; omega) | (simp at *; omega)))))))
  clear hbx3 x2_0_0 x2_0_1 x2_0_2 x2_1_0 x2_1_1 x2o0 x2n0 x2t0_0 x2o1 x2n1 x2t1_0 hBx2
  go_wp2_with ((go_at_call 33; ((with_reducible refine (baseWithin_any _ _ _ _).mono ?_)); rintro e w' ⟨rfl, rfl⟩))
  refine (refSum_ok a b c S _ hc hS).mono ?_
  rintro e xw4 ⟨rfl, hbx4⟩
  have zx4 := hbx4.size
  try simp at zx4
  obtain ⟨x4_0_0, x4_0_1, x4_0_2, x4_1_0, x4_1_1⟩ : xw4.cell? ⟨w.heap.size, 0, none⟩ = some (.int .i64 a) ∧ xw4.cell? ⟨w.heap.size, 1, none⟩ = some (.int .i64 b) ∧ xw4.cell? ⟨w.heap.size, 2, none⟩ = some (.int .i64 c) ∧ xw4.cell? ⟨w.heap.size + 1, 0, none⟩ = some (.int .i64 o) ∧ xw4.cell? ⟨w.heap.size + 1, 1, none⟩ = some (.int .i64 h) := by refine ⟨?_, ?_, ?_, ?_, ?_⟩ <;> (rw [(bcell hbx4).1 _ _ (by first | (simp; done) | (simp; omega) | omega)]; simp [go_sem, World.cell?_alloc_past, *])
  obtain ⟨x4o0, x4n0, x4t0_0, x4o1, x4n1, x4t1_0⟩ : w.heap.size < xw4.heap.size ∧ xw4.heap.size ≠ w.heap.size ∧ w.heap.size < xw4.heap.size + 1 ∧ w.heap.size + 1 < xw4.heap.size ∧ xw4.heap.size ≠ w.heap.size + 1 ∧ w.heap.size + 1 < xw4.heap.size + 1 := by refine ⟨?_, ?_, ?_, ?_, ?_, ?_⟩ <;> omega
  have hBx4 : Below w.heap.size w xw4 := (by (repeat (first | (with_reducible refine Below.drew ?_) | (with_reducible refine below_drewN ?_ _) | (with_reducible refine Below.alloc ?_ (by first | omega | (simp; done) | (simp; omega) | (simp at *; omega)) _) | (with_reducible refine Below.setCell ?_ (by first | omega | (simp; done) | (simp; omega) | (simp at *; omega)) _) | (with_reducible exact Below.refl _ _) | (with_reducible assumption) | (with_reducible refine Below.trans ?_ (Below.mono (by assumption) (by first | omega | (simp; done) | (simp; omega) | (simp at *; omega)))))))
  clear hbx4 x3_0_0 x3_0_1 x3_0_2 x3_1_0 x3_1_1 x3o0 x3n0 x3t0_0 x3o1 x3n1 x3t1_0 hBx3
  go_upto_region 12 with (fail)
  refine wp_region_held_drew (S := (fun w' => w'.cell? ⟨w.heap.size, 0, none⟩ = some (.int .i64 a) ∧ w'.cell? ⟨w.heap.size, 1, none⟩ = some (.int .i64 b) ∧ w'.cell? ⟨w.heap.size, 2, none⟩ = some (.int .i64 c) ∧ w'.cell? ⟨w.heap.size + 1, 0, none⟩ = some (.int .i64 o) ∧ w'.cell? ⟨w.heap.size + 1, 1, none⟩ = some (.int .i64 h))) (by kernel_rfl) (by simp [go_sem, World.cell?_alloc_past, *]) (fun hHeld => ?_)
  refine tkH 0 ⟨some 31, _, _, _, _, _⟩ ?_ rfl ?_ (by assumption) ?_
  rotate_left
  · (intro w hSw; (try dsimp only at hSw); go_simp; all_goals with_reducible rfl)
  try simp only [Act.put, sA, sB, sC]
  refine tkH 1 ⟨some 32, _, _, _, _, _⟩ ?_ rfl ?_ (by assumption) ?_
  rotate_left
  · (intro w hSw; (try dsimp only at hSw); go_simp; all_goals with_reducible rfl)
  try simp only [Act.put, sA, sB, sC]
  refine tkH 2 ⟨some 33, _, _, _, _, _⟩ ?_ rfl ?_ (by assumption) ?_
  rotate_left
  · (intro w hSw; (try dsimp only at hSw); go_simp; all_goals with_reducible rfl)
  try simp only [Act.put, sA, sB, sC]
  refine tkH 3 ⟨some 34, _, _, _, _, _⟩ ?_ rfl ?_ (by assumption) ?_
  rotate_left
  · (intro w hSw; (try dsimp only at hSw); go_simp; all_goals with_reducible rfl)
  try simp only [Act.put, sA, sB, sC]
  refine tkH 4 ⟨some 35, _, _, _, _, _⟩ ?_ rfl ?_ (by assumption) ?_
  rotate_left
  · (intro w hSw; (try dsimp only at hSw); go_simp; all_goals with_reducible rfl)
  try simp only [Act.put, sA, sB, sC]
  refine tkH 5 ⟨some 36, _, _, _, _, _⟩ ?_ rfl ?_ (by assumption) ?_
  rotate_left
  · (intro w hSw; (try dsimp only at hSw); go_simp; all_goals with_reducible rfl)
  try simp only [Act.put, sA, sB, sC]
  refine tkH 9 ⟨some 40, _, _, _, _, _⟩ ?_ rfl ?_ (by assumption) ?_
  rotate_left
  · (intro w hSw; (try dsimp only at hSw); go_simp; all_goals with_reducible rfl)
  try simp only [Act.put, sA, sB, sC]
  refine tkH 10 ⟨some 41, _, _, _, _, _⟩ ?_ rfl ?_ (by assumption) ?_
  rotate_left
  · (intro w hSw; (try dsimp only at hSw); go_simp; all_goals with_reducible rfl)
  try simp only [Act.put, sA, sB, sC]
  refine tkH 11 ⟨some 42, _, _, _, _, _⟩ ?_ rfl ?_ (by assumption) ?_
  rotate_left
  · (intro w hSw; (try dsimp only at hSw); go_simp; all_goals with_reducible rfl)
  try simp only [Act.put, sA, sB, sC]
  refine wpAnyH_ready (rs := [6]) (by kernel_rfl) (by simp) ?_
  refine AllReadyH.cons rfl (fun K hK => ?_) AllReadyH.nil
  go_simp
  refine (refSum_ok a b c S _ hc hS).mono ?_
  rintro e xw5 ⟨rfl, hbx5⟩
  have zx5 := hbx5.size
  try simp at zx5
  obtain ⟨x5_0_0, x5_0_1, x5_0_2, x5_1_0, x5_1_1⟩ : xw5.cell? ⟨w.heap.size, 0, none⟩ = some (.int .i64 a) ∧ xw5.cell? ⟨w.heap.size, 1, none⟩ = some (.int .i64 b) ∧ xw5.cell? ⟨w.heap.size, 2, none⟩ = some (.int .i64 c) ∧ xw5.cell? ⟨w.heap.size + 1, 0, none⟩ = some (.int .i64 o) ∧ xw5.cell? ⟨w.heap.size + 1, 1, none⟩ = some (.int .i64 h) := by refine ⟨?_, ?_, ?_, ?_, ?_⟩ <;> (rw [(bcell hbx5).1 _ _ (by first | (simp; done) | (simp; omega) | omega)]; simp [go_sem, World.cell?_alloc_past, *])
  obtain ⟨x5o0, x5n0, x5t0_0, x5o1, x5n1, x5t1_0⟩ : w.heap.size < xw5.heap.size ∧ xw5.heap.size ≠ w.heap.size ∧ w.heap.size < xw5.heap.size + 1 ∧ w.heap.size + 1 < xw5.heap.size ∧ xw5.heap.size ≠ w.heap.size + 1 ∧ w.heap.size + 1 < xw5.heap.size + 1 := by refine ⟨?_, ?_, ?_, ?_, ?_, ?_⟩ <;> omega
  have hBx5 : Below w.heap.size w xw5 := (by (repeat (first | (with_reducible refine Below.drew ?_) | (with_reducible refine below_drewN ?_ _) | (with_reducible refine Below.alloc ?_ (by first | omega | (simp; done) | (simp; omega) | (simp at *; omega)) _) | (with_reducible refine Below.setCell ?_ (by first | omega | (simp; done) | (simp; omega) | (simp at *; omega)) _) | (with_reducible exact Below.refl _ _) | (with_reducible assumption) | (with_reducible refine Below.trans ?_ (Below.mono (by assumption) (by first | omega | (simp; done) | (simp; omega) | (simp at *; omega)))))))
  clear hbx5 x4_0_0 x4_0_1 x4_0_2 x4_1_0 x4_1_1 x4o0 x4n0 x4t0_0 x4o1 x4n1 x4t1_0 hBx4
  go_wp2_with fail
  refine hK.out _ _ (by simp [go_sem, World.cell?_alloc_past, *]) (fun hHeld => ?_)
  clear hK K
  try simp only [Act.put, sA, sB, sC]
  refine tkH 7 ⟨some 38, _, _, _, _, _⟩ ?_ rfl ?_ (by assumption) ?_
  rotate_left
  · (intro w hSw; (try dsimp only at hSw); go_simp; all_goals with_reducible rfl)
  try simp only [Act.put, sA, sB, sC]
  refine tkH 8 ⟨some 39, _, _, _, _, _⟩ ?_ rfl ?_ (by assumption) ?_
  rotate_left
  · (intro w hSw; (try dsimp only at hSw); go_simp; all_goals with_reducible rfl)
  try simp only [Act.put, sA, sB, sC]
  refine wpAnyH_ready (rs := [12]) (by kernel_rfl) (by simp) ?_
  refine AllReadyH.cons rfl (fun K hK => ?_) AllReadyH.nil
  go_simp
  refine (baseWithin_any _ _ _ _).mono ?_
  rintro e wq ⟨rfl, rfl⟩
  rw [q1]
  go_wp2_with fail
  refine hK.out _ _ (by simp [go_sem, World.cell?_alloc_past, *]) (fun hHeld => ?_)
  clear hK K
  try simp only [Act.put, sA, sB, sC]
  refine tkH 13 ⟨some 44, _, _, _, _, _⟩ ?_ rfl ?_ (by assumption) ?_
  rotate_left
  · (intro w hSw; (try dsimp only at hSw); go_simp; all_goals with_reducible rfl)
  try simp only [Act.put, sA, sB, sC]
  refine tkH 14 ⟨some 45, _, _, _, _, _⟩ ?_ rfl ?_ (by assumption) ?_
  rotate_left
  · (intro w hSw; (try dsimp only at hSw); go_simp; all_goals with_reducible rfl)
  try simp only [Act.put, sA, sB, sC]
  refine tkH 15 ⟨some 46, _, _, _, _, _⟩ ?_ rfl ?_ (by assumption) ?_
  rotate_left
  · (intro w hSw; (try dsimp only at hSw); go_simp; all_goals with_reducible rfl)
  try simp only [Act.put, sA, sB, sC]
  refine tkH 16 ⟨some 47, _, _, _, _, _⟩ ?_ rfl ?_ (by assumption) ?_
  rotate_left
  · (intro w hSw; (try dsimp only at hSw); go_simp; all_goals with_reducible rfl)
  try simp only [Act.put, sA, sB, sC]
  refine tkH 17 ⟨some 48, _, _, _, _, _⟩ ?_ rfl ?_ (by assumption) ?_
  rotate_left
  · (intro w hSw; (try dsimp only at hSw); go_simp; all_goals with_reducible rfl)
  try simp only [Act.put, sA, sB, sC]
  refine tkH 18 ⟨some 49, _, _, _, _, _⟩ ?_ rfl ?_ (by assumption) ?_
  rotate_left
  · (intro w hSw; (try dsimp only at hSw); go_simp; all_goals with_reducible rfl)
  try simp only [Act.put, sA, sB, sC]
  refine tkH 19 ⟨some 50, _, _, _, _, _⟩ ?_ rfl ?_ (by assumption) ?_
  rotate_left
  · (intro w hSw; (try dsimp only at hSw); go_simp; all_goals with_reducible rfl)
  try simp only [Act.put, sA, sB, sC]
  refine tkH 23 ⟨some 54, _, _, _, _, _⟩ ?_ rfl ?_ (by assumption) ?_
  rotate_left
  · (intro w hSw; (try dsimp only at hSw); go_simp; all_goals with_reducible rfl)
  try simp only [Act.put, sA, sB, sC]
  refine tkH 24 ⟨some 55, _, _, _, _, _⟩ ?_ rfl ?_ (by assumption) ?_
  rotate_left
  · (intro w hSw; (try dsimp only at hSw); go_simp; all_goals with_reducible rfl)
  try simp only [Act.put, sA, sB, sC]
  refine tkH 25 ⟨some 56, _, _, _, _, _⟩ ?_ rfl ?_ (by assumption) ?_
  rotate_left
  · (intro w hSw; (try dsimp only at hSw); go_simp; all_goals with_reducible rfl)
  try simp only [Act.put, sA, sB, sC]
  refine wpAnyH_ready (rs := [20]) (by kernel_rfl) (by simp) ?_
  refine AllReadyH.cons rfl (fun K hK => ?_) AllReadyH.nil
  go_simp
  refine (refSum_ok a b c S _ hc hS).mono ?_
  rintro e xw6 ⟨rfl, hbx6⟩
  have zx6 := hbx6.size
  try simp at zx6
  obtain ⟨x6_0_0, x6_0_1, x6_0_2, x6_1_0, x6_1_1⟩ : xw6.cell? ⟨w.heap.size, 0, none⟩ = some (.int .i64 a) ∧ xw6.cell? ⟨w.heap.size, 1, none⟩ = some (.int .i64 b) ∧ xw6.cell? ⟨w.heap.size, 2, none⟩ = some (.int .i64 c) ∧ xw6.cell? ⟨w.heap.size + 1, 0, none⟩ = some (.int .i64 o) ∧ xw6.cell? ⟨w.heap.size + 1, 1, none⟩ = some (.int .i64 h) := by refine ⟨?_, ?_, ?_, ?_, ?_⟩ <;> (rw [(bcell hbx6).1 _ _ (by first | (simp; done) | (simp; omega) | omega)]; simp [go_sem, World.cell?_alloc_past, *])
  obtain ⟨x6o0, x6n0, x6t0_0, x6o1, x6n1, x6t1_0⟩ : w.heap.size < xw6.heap.size ∧ xw6.heap.size ≠ w.heap.size ∧ w.heap.size < xw6.heap.size + 1 ∧ w.heap.size + 1 < xw6.heap.size ∧ xw6.heap.size ≠ w.heap.size + 1 ∧ w.heap.size + 1 < xw6.heap.size + 1 := by refine ⟨?_, ?_, ?_, ?_, ?_, ?_⟩ <;> omega
  have hBx6 : Below w.heap.size w xw6 := (by (repeat (first | (with_reducible refine Below.drew ?_) | (with_reducible refine below_drewN ?_ _) | (with_reducible refine Below.alloc ?_ (by first | omega | (simp; done) | (simp; omega) | (simp at *; omega)) _) | (with_reducible refine Below.setCell ?_ (by first | omega | (simp; done) | (simp; omega) | (simp at *; omega)) _) | (with_reducible exact Below.refl _ _) | (with_reducible assumption) | (with_reducible refine Below.trans ?_ (Below.mono (by assumption) (by first | omega | (simp; done) | (simp; omega) | (simp at *; omega)))))))
  clear hbx6 x5_0_0 x5_0_1 x5_0_2 x5_1_0 x5_1_1 x5o0 x5n0 x5t0_0 x5o1 x5n1 x5t1_0 hBx5
  go_wp2_with fail
  refine hK.out _ _ (by simp [go_sem, World.cell?_alloc_past, *]) (fun hHeld => ?_)
  clear hK K
  try simp only [Act.put, sA, sB, sC]
  refine tkH 21 ⟨some 52, _, _, _, _, _⟩ ?_ rfl ?_ (by assumption) ?_
  rotate_left
  · (intro w hSw; (try dsimp only at hSw); go_simp; all_goals with_reducible rfl)
  try simp only [Act.put, sA, sB, sC]
  refine tkH 22 ⟨some 53, _, _, _, _, _⟩ ?_ rfl ?_ (by assumption) ?_
  rotate_left
  · (intro w hSw; (try dsimp only at hSw); go_simp; all_goals with_reducible rfl)
  try simp only [Act.put, sA, sB, sC]
  refine wpAnyH_ready (rs := [26]) (by kernel_rfl) (by simp) ?_
  refine AllReadyH.cons rfl (fun K hK => ?_) AllReadyH.nil
  go_simp
  refine (baseWithin_any _ _ _ _).mono ?_
  rintro e wq ⟨rfl, rfl⟩
  rw [q2]
  go_wp2_with fail
  refine hK.out _ _ (by simp [go_sem, World.cell?_alloc_past, *]) (fun hHeld => ?_)
  clear hK K
  try simp only [Act.put, sA, sB, sC]
  refine tkH 27 ⟨some 58, _, _, _, _, _⟩ ?_ rfl ?_ (by assumption) ?_
  rotate_left
  · (intro w hSw; (try dsimp only at hSw); go_simp; all_goals with_reducible rfl)
  try simp only [Act.put, sA, sB, sC]
  refine tkH 28 ⟨some 6, _, _, _, _, _⟩ ?_ rfl ?_ (by assumption) ?_
  rotate_left
  · (intro w hSw; (try dsimp only at hSw); go_simp; all_goals with_reducible rfl)
  try simp only [Act.put, sA, sB, sC]
  refine tkH 29 ⟨some 7, _, _, _, _, _⟩ ?_ rfl ?_ (by assumption) ?_
  rotate_left
  · (intro w hSw; (try dsimp only at hSw); go_simp; all_goals with_reducible rfl)
  try simp only [Act.put, sA, sB, sC]
  refine wpAnyH_done (by kernel_rfl) ?_ _
  go_wp2
  go_ret2
  exact ⟨rfl, (by (repeat (first | (with_reducible refine Below.drew ?_) | (with_reducible refine below_drewN ?_ _) | (with_reducible refine Below.alloc ?_ (by first | omega | (simp; done) | (simp; omega) | (simp at *; omega)) _) | (with_reducible refine Below.setCell ?_ (by first | omega | (simp; done) | (simp; omega) | (simp at *; omega)) _) | (with_reducible exact Below.refl _ _) | (with_reducible assumption) | (with_reducible refine Below.trans ?_ (Below.mono (by assumption) (by first | omega | (simp; done) | (simp; omega) | (simp at *; omega)))))))⟩
set_option maxHeartbeats 2000000 in
set_option maxRecDepth 100000 in
theorem refMatches_false (a b c o h t S P Q X Y M : Int) (w : World) (p2 : Bool) (hE : Hid (conE a b c = 0)) (hc : Hid (conB a b c = true)) (hG : Hid (gasE o h = 0)) (hS : Hid (a + b + c = S)) (hSn : (S == 0) = false) (s0 : 0 ≤ S) (s1 : S ≤ 1000000000) (ht : Hid (inB t 0 1000 = true)) (t0 : 0 ≤ t) (t1 : t ≤ 1000) (hP : Hid (o * S = P ∧ h * S = Q)) (hX : Hid (1000 * a - P = X ∧ 1000 * b - Q = Y)) (hM : Hid (t * S = M)) (hp1 : Hid (inB X (-M) M = false)) (hp2 : Hid (inB Y (-M) M = p2)) : Calls Try.prog 42 #[.agg #[.int .i64 a, .int .i64 b, .int .i64 c], .agg #[.int .i64 o, .int .i64 h], .int .i64 t] w fun e w' => e = .returned (.tuple #[.bool false, .int .i64 0]) ∧ Below w.heap.size w w' := by
  have hi : inB t 0 1000 = true := ht.out
  obtain ⟨a0, b0, c0, s2⟩ := conB_iff.1 hc.out
  obtain ⟨o0, o1, h0, h1, oh⟩ := gasE_zF hG.out
  have m0 : 0 ≤ t * S ∧ t * S ≤ 1000000000000 := ⟨Int.mul_nonneg t0 s0, Int.le_trans (Int.mul_le_mul t1 s1 s0 (by omega)) (by omega)⟩
  have pb : ∀ k : Int, 0 ≤ k → k ≤ 1000 → 0 ≤ k * S ∧ k * S ≤ 1000000000000 := fun k g1 g2 => ⟨Int.mul_nonneg g1 s0, Int.le_trans (Int.mul_le_mul g2 s1 s0 (by omega)) (by omega)⟩
  have p0 := pb o o0 o1
  have q0 := pb h h0 h1
  rw [hM.out] at m0
  rw [hP.out.1] at p0
  rw [hP.out.2] at q0
  obtain ⟨m0, m1⟩ := m0
  have wM : IntKind.i64.wrap (t * S) = M := by rw [hM.out]; exact IntWalk.i64_in _ (by omega)
  have wM2 : wrap64 (t * S) = M := (IntWalk.i64_left _).symm.trans wM
  have wN : IntKind.i64.wrap (-M) = -M := IntWalk.i64_in _ (by omega)
  have wP : IntKind.i64.wrap (o * S) = P := by rw [hP.out.1]; exact IntWalk.i64_in _ (by omega)
  have wQ : IntKind.i64.wrap (h * S) = Q := by rw [hP.out.2]; exact IntWalk.i64_in _ (by omega)
  have wa : IntKind.i64.wrap (1000 * a) = 1000 * a := IntWalk.i64_in _ (by omega)
  have wb : IntKind.i64.wrap (1000 * b) = 1000 * b := IntWalk.i64_in _ (by omega)
  have wX : IntKind.i64.wrap (1000 * a - P) = X := by rw [hX.out.1]; exact IntWalk.i64_in _ (by have := hX.out.1; omega)
  have wY : IntKind.i64.wrap (1000 * b - Q) = Y := by rw [hX.out.2]; exact IntWalk.i64_in _ (by have := hX.out.2; omega)
  have q1 := hp1.out
  have q2 := hp2.out
  clear pb hP hX hM
  go_enter Try.func42, Try.ntmps42
  go_wp2_with fail
  refine (refCheckContent_any a b c 0 _ hE).mono ?_
  rintro e xw1 ⟨rfl, hbx1⟩
  have zx1 := hbx1.size
  try simp at zx1
  obtain ⟨x1_0_0, x1_0_1, x1_0_2, x1_1_0, x1_1_1⟩ : xw1.cell? ⟨w.heap.size, 0, none⟩ = some (.int .i64 a) ∧ xw1.cell? ⟨w.heap.size, 1, none⟩ = some (.int .i64 b) ∧ xw1.cell? ⟨w.heap.size, 2, none⟩ = some (.int .i64 c) ∧ xw1.cell? ⟨w.heap.size + 1, 0, none⟩ = some (.int .i64 o) ∧ xw1.cell? ⟨w.heap.size + 1, 1, none⟩ = some (.int .i64 h) := by refine ⟨?_, ?_, ?_, ?_, ?_⟩ <;> (rw [(bcell hbx1).1 _ _ (by first | (simp; done) | (simp; omega) | omega)]; simp [go_sem, World.cell?_alloc_past, *])
  obtain ⟨x1o0, x1n0, x1t0_0, x1o1, x1n1, x1t1_0⟩ : w.heap.size < xw1.heap.size ∧ xw1.heap.size ≠ w.heap.size ∧ w.heap.size < xw1.heap.size + 1 ∧ w.heap.size + 1 < xw1.heap.size ∧ xw1.heap.size ≠ w.heap.size + 1 ∧ w.heap.size + 1 < xw1.heap.size + 1 := by refine ⟨?_, ?_, ?_, ?_, ?_, ?_⟩ <;> omega
  have hBx1 : Below w.heap.size w xw1 := (by (repeat (first | (with_reducible refine Below.drew ?_) | (with_reducible refine below_drewN ?_ _) | (with_reducible refine Below.alloc ?_ (by first | omega | (simp; done) | (simp; omega) | (simp at *; omega)) _) | (with_reducible refine Below.setCell ?_ (by first | omega | (simp; done) | (simp; omega) | (simp at *; omega)) _) | (with_reducible exact Below.refl _ _) | (with_reducible assumption) | (with_reducible refine Below.trans ?_ (Below.mono (by assumption) (by first | omega | (simp; done) | (simp; omega) | (simp at *; omega)))))))
  clear hbx1 
  go_wp2_with fail
  refine (refCheckGas_x o h 0 _ hG).mono ?_
  rintro e xw2 ⟨rfl, hbx2⟩
  have zx2 := hbx2.size
  try simp at zx2
  obtain ⟨x2_0_0, x2_0_1, x2_0_2, x2_1_0, x2_1_1⟩ : xw2.cell? ⟨w.heap.size, 0, none⟩ = some (.int .i64 a) ∧ xw2.cell? ⟨w.heap.size, 1, none⟩ = some (.int .i64 b) ∧ xw2.cell? ⟨w.heap.size, 2, none⟩ = some (.int .i64 c) ∧ xw2.cell? ⟨w.heap.size + 1, 0, none⟩ = some (.int .i64 o) ∧ xw2.cell? ⟨w.heap.size + 1, 1, none⟩ = some (.int .i64 h) := by refine ⟨?_, ?_, ?_, ?_, ?_⟩ <;> (rw [(bcell hbx2).1 _ _ (by first | (simp; done) | (simp; omega) | omega)]; simp [go_sem, World.cell?_alloc_past, *])
  obtain ⟨x2o0, x2n0, x2t0_0, x2o1, x2n1, x2t1_0⟩ : w.heap.size < xw2.heap.size ∧ xw2.heap.size ≠ w.heap.size ∧ w.heap.size < xw2.heap.size + 1 ∧ w.heap.size + 1 < xw2.heap.size ∧ xw2.heap.size ≠ w.heap.size + 1 ∧ w.heap.size + 1 < xw2.heap.size + 1 := by refine ⟨?_, ?_, ?_, ?_, ?_, ?_⟩ <;> omega
  have hBx2 : Below w.heap.size w xw2 := (by (repeat (first | (with_reducible refine Below.drew ?_) | (with_reducible refine below_drewN ?_ _) | (with_reducible refine Below.alloc ?_ (by first | omega | (simp; done) | (simp; omega) | (simp at *; omega)) _) | (with_reducible refine Below.setCell ?_ (by first | omega | (simp; done) | (simp; omega) | (simp at *; omega)) _) | (with_reducible exact Below.refl _ _) | (with_reducible assumption) | (with_reducible refine Below.trans ?_ (Below.mono (by assumption) (by first | omega | (simp; done) | (simp; omega) | (simp at *; omega)))))))
  clear hbx2 x1_0_0 x1_0_1 x1_0_2 x1_1_0 x1_1_1 x1o0 x1n0 x1t0_0 x1o1 x1n1 x1t1_0 hBx1
  go_wp2_with fail
  refine (refSum_ok a b c S _ hc hS).mono ?_
  rintro e xw3 ⟨rfl, hbx3⟩
  have zx3 := hbx3.size
  try simp at zx3
  obtain ⟨x3_0_0, x3_0_1, x3_0_2, x3_1_0, x3_1_1⟩ : xw3.cell? ⟨w.heap.size, 0, none⟩ = some (.int .i64 a) ∧ xw3.cell? ⟨w.heap.size, 1, none⟩ = some (.int .i64 b) ∧ xw3.cell? ⟨w.heap.size, 2, none⟩ = some (.int .i64 c) ∧ xw3.cell? ⟨w.heap.size + 1, 0, none⟩ = some (.int .i64 o) ∧ xw3.cell? ⟨w.heap.size + 1, 1, none⟩ = some (.int .i64 h) := by refine ⟨?_, ?_, ?_, ?_, ?_⟩ <;> (rw [(bcell hbx3).1 _ _ (by first | (simp; done) | (simp; omega) | omega)]; simp [go_sem, World.cell?_alloc_past, *])
  obtain ⟨x3o0, x3n0, x3t0_0, x3o1, x3n1, x3t1_0⟩ : w.heap.size < xw3.heap.size ∧ xw3.heap.size ≠ w.heap.size ∧ w.heap.size < xw3.heap.size + 1 ∧ w.heap.size + 1 < xw3.heap.size ∧ xw3.heap.size ≠ w.heap.size + 1 ∧ w.heap.size + 1 < xw3.heap.size + 1 := by refine ⟨?_, ?_, ?_, ?_, ?_, ?_⟩ <;> omega
  have hBx3 : Below w.heap.size w xw3 := (by (repeat (first | (with_reducible refine Below.drew ?_) | (with_reducible refine below_drewN ?_ _) | (with_reducible refine Below.alloc ?_ (by first | omega | (simp; done) | (simp; omega) | (simp at *; omega)) _) | (with_reducible refine Below.setCell ?_ (by first | omega | (simp; done) | (simp; omega) | (simp at *; omega)) _) | (with_reducible exact Below.refl _ _) | (with_reducible assumption) | (with_reducible refine Below.trans ?_ (Below.mono (by assumption) (by first | omega | (simp; done) | (simp; omega) | (simp at *; omega)))))))
  clear hbx3 x2_0_0 x2_0_1 x2_0_2 x2_1_0 x2_1_1 x2o0 x2n0 x2t0_0 x2o1 x2n1 x2t1_0 hBx2
  go_wp2_with ((go_at_call 33; ((with_reducible refine (baseWithin_any _ _ _ _).mono ?_)); rintro e w' ⟨rfl, rfl⟩))
  refine (refSum_ok a b c S _ hc hS).mono ?_
  rintro e xw4 ⟨rfl, hbx4⟩
  have zx4 := hbx4.size
  try simp at zx4
  obtain ⟨x4_0_0, x4_0_1, x4_0_2, x4_1_0, x4_1_1⟩ : xw4.cell? ⟨w.heap.size, 0, none⟩ = some (.int .i64 a) ∧ xw4.cell? ⟨w.heap.size, 1, none⟩ = some (.int .i64 b) ∧ xw4.cell? ⟨w.heap.size, 2, none⟩ = some (.int .i64 c) ∧ xw4.cell? ⟨w.heap.size + 1, 0, none⟩ = some (.int .i64 o) ∧ xw4.cell? ⟨w.heap.size + 1, 1, none⟩ = some (.int .i64 h) := by refine ⟨?_, ?_, ?_, ?_, ?_⟩ <;> (rw [(bcell hbx4).1 _ _ (by first | (simp; done) | (simp; omega) | omega)]; simp [go_sem, World.cell?_alloc_past, *])
  obtain ⟨x4o0, x4n0, x4t0_0, x4o1, x4n1, x4t1_0⟩ : w.heap.size < xw4.heap.size ∧ xw4.heap.size ≠ w.heap.size ∧ w.heap.size < xw4.heap.size + 1 ∧ w.heap.size + 1 < xw4.heap.size ∧ xw4.heap.size ≠ w.heap.size + 1 ∧ w.heap.size + 1 < xw4.heap.size + 1 := by refine ⟨?_, ?_, ?_, ?_, ?_, ?_⟩ <;> omega
  have hBx4 : Below w.heap.size w xw4 := (by (repeat (first | (with_reducible refine Below.drew ?_) | (with_reducible refine below_drewN ?_ _) | (with_reducible refine Below.alloc ?_ (by first | omega | (simp; done) | (simp; omega) | (simp at *; omega)) _) | (with_reducible refine Below.setCell ?_ (by first | omega | (simp; done) | (simp; omega) | (simp at *; omega)) _) | (with_reducible exact Below.refl _ _) | (with_reducible assumption) | (with_reducible refine Below.trans ?_ (Below.mono (by assumption) (by first | omega | (simp; done) | (simp; omega) | (simp at *; omega)))))))
  clear hbx4 x3_0_0 x3_0_1 x3_0_2 x3_1_0 x3_1_1 x3o0 x3n0 x3t0_0 x3o1 x3n1 x3t1_0 hBx3
  go_upto_region 12 with (fail)
  refine wp_region_held_drew (S := (fun w' => w'.cell? ⟨w.heap.size, 0, none⟩ = some (.int .i64 a) ∧ w'.cell? ⟨w.heap.size, 1, none⟩ = some (.int .i64 b) ∧ w'.cell? ⟨w.heap.size, 2, none⟩ = some (.int .i64 c) ∧ w'.cell? ⟨w.heap.size + 1, 0, none⟩ = some (.int .i64 o) ∧ w'.cell? ⟨w.heap.size + 1, 1, none⟩ = some (.int .i64 h))) (by kernel_rfl) (by simp [go_sem, World.cell?_alloc_past, *]) (fun hHeld => ?_)
  refine tkH 0 ⟨some 31, _, _, _, _, _⟩ ?_ rfl ?_ (by assumption) ?_
  rotate_left
  · (intro w hSw; (try dsimp only at hSw); go_simp; all_goals with_reducible rfl)
  try simp only [Act.put, sA, sB, sC]
  refine tkH 1 ⟨some 32, _, _, _, _, _⟩ ?_ rfl ?_ (by assumption) ?_
  rotate_left
  · (intro w hSw; (try dsimp only at hSw); go_simp; all_goals with_reducible rfl)
  try simp only [Act.put, sA, sB, sC]
  refine tkH 2 ⟨some 33, _, _, _, _, _⟩ ?_ rfl ?_ (by assumption) ?_
  rotate_left
  · (intro w hSw; (try dsimp only at hSw); go_simp; all_goals with_reducible rfl)
  try simp only [Act.put, sA, sB, sC]
  refine tkH 3 ⟨some 34, _, _, _, _, _⟩ ?_ rfl ?_ (by assumption) ?_
  rotate_left
  · (intro w hSw; (try dsimp only at hSw); go_simp; all_goals with_reducible rfl)
  try simp only [Act.put, sA, sB, sC]
  refine tkH 4 ⟨some 35, _, _, _, _, _⟩ ?_ rfl ?_ (by assumption) ?_
  rotate_left
  · (intro w hSw; (try dsimp only at hSw); go_simp; all_goals with_reducible rfl)
  try simp only [Act.put, sA, sB, sC]
  refine tkH 5 ⟨some 36, _, _, _, _, _⟩ ?_ rfl ?_ (by assumption) ?_
  rotate_left
  · (intro w hSw; (try dsimp only at hSw); go_simp; all_goals with_reducible rfl)
  try simp only [Act.put, sA, sB, sC]
  refine tkH 9 ⟨some 40, _, _, _, _, _⟩ ?_ rfl ?_ (by assumption) ?_
  rotate_left
  · (intro w hSw; (try dsimp only at hSw); go_simp; all_goals with_reducible rfl)
  try simp only [Act.put, sA, sB, sC]
  refine tkH 10 ⟨some 41, _, _, _, _, _⟩ ?_ rfl ?_ (by assumption) ?_
  rotate_left
  · (intro w hSw; (try dsimp only at hSw); go_simp; all_goals with_reducible rfl)
  try simp only [Act.put, sA, sB, sC]
  refine tkH 11 ⟨some 42, _, _, _, _, _⟩ ?_ rfl ?_ (by assumption) ?_
  rotate_left
  · (intro w hSw; (try dsimp only at hSw); go_simp; all_goals with_reducible rfl)
  try simp only [Act.put, sA, sB, sC]
  refine wpAnyH_ready (rs := [6]) (by kernel_rfl) (by simp) ?_
  refine AllReadyH.cons rfl (fun K hK => ?_) AllReadyH.nil
  go_simp
  refine (refSum_ok a b c S _ hc hS).mono ?_
  rintro e xw5 ⟨rfl, hbx5⟩
  have zx5 := hbx5.size
  try simp at zx5
  obtain ⟨x5_0_0, x5_0_1, x5_0_2, x5_1_0, x5_1_1⟩ : xw5.cell? ⟨w.heap.size, 0, none⟩ = some (.int .i64 a) ∧ xw5.cell? ⟨w.heap.size, 1, none⟩ = some (.int .i64 b) ∧ xw5.cell? ⟨w.heap.size, 2, none⟩ = some (.int .i64 c) ∧ xw5.cell? ⟨w.heap.size + 1, 0, none⟩ = some (.int .i64 o) ∧ xw5.cell? ⟨w.heap.size + 1, 1, none⟩ = some (.int .i64 h) := by refine ⟨?_, ?_, ?_, ?_, ?_⟩ <;> (rw [(bcell hbx5).1 _ _ (by first | (simp; done) | (simp; omega) | omega)]; simp [go_sem, World.cell?_alloc_past, *])
  obtain ⟨x5o0, x5n0, x5t0_0, x5o1, x5n1, x5t1_0⟩ : w.heap.size < xw5.heap.size ∧ xw5.heap.size ≠ w.heap.size ∧ w.heap.size < xw5.heap.size + 1 ∧ w.heap.size + 1 < xw5.heap.size ∧ xw5.heap.size ≠ w.heap.size + 1 ∧ w.heap.size + 1 < xw5.heap.size + 1 := by refine ⟨?_, ?_, ?_, ?_, ?_, ?_⟩ <;> omega
  have hBx5 : Below w.heap.size w xw5 := (by (repeat (first | (with_reducible refine Below.drew ?_) | (with_reducible refine below_drewN ?_ _) | (with_reducible refine Below.alloc ?_ (by first | omega | (simp; done) | (simp; omega) | (simp at *; omega)) _) | (with_reducible refine Below.setCell ?_ (by first | omega | (simp; done) | (simp; omega) | (simp at *; omega)) _) | (with_reducible exact Below.refl _ _) | (with_reducible assumption) | (with_reducible refine Below.trans ?_ (Below.mono (by assumption) (by first | omega | (simp; done) | (simp; omega) | (simp at *; omega)))))))
  clear hbx5 x4_0_0 x4_0_1 x4_0_2 x4_1_0 x4_1_1 x4o0 x4n0 x4t0_0 x4o1 x4n1 x4t1_0 hBx4
  go_wp2_with fail
  refine hK.out _ _ (by simp [go_sem, World.cell?_alloc_past, *]) (fun hHeld => ?_)
  clear hK K
  try simp only [Act.put, sA, sB, sC]
  refine tkH 7 ⟨some 38, _, _, _, _, _⟩ ?_ rfl ?_ (by assumption) ?_
  rotate_left
  · (intro w hSw; (try dsimp only at hSw); go_simp; all_goals with_reducible rfl)
  try simp only [Act.put, sA, sB, sC]
  refine tkH 8 ⟨some 39, _, _, _, _, _⟩ ?_ rfl ?_ (by assumption) ?_
  rotate_left
  · (intro w hSw; (try dsimp only at hSw); go_simp; all_goals with_reducible rfl)
  try simp only [Act.put, sA, sB, sC]
  refine wpAnyH_ready (rs := [12]) (by kernel_rfl) (by simp) ?_
  refine AllReadyH.cons rfl (fun K hK => ?_) AllReadyH.nil
  go_simp
  refine (baseWithin_any _ _ _ _).mono ?_
  rintro e wq ⟨rfl, rfl⟩
  rw [q1]
  go_wp2_with fail
  refine hK.out _ _ (by simp [go_sem, World.cell?_alloc_past, *]) (fun hHeld => ?_)
  clear hK K
  try simp only [Act.put, sA, sB, sC]
  refine tkH 13 ⟨some 44, _, _, _, _, _⟩ ?_ rfl ?_ (by assumption) ?_
  rotate_left
  · (intro w hSw; (try dsimp only at hSw); go_simp; all_goals with_reducible rfl)
  try simp only [Act.put, sA, sB, sC]
  refine skH 14 ⟨some 45, _, _, _, _, _⟩ rfl (by assumption) ?_
  try simp only [Act.put, sA, sB, sC]
  refine skH 15 ⟨some 46, _, _, _, _, _⟩ rfl (by assumption) ?_
  try simp only [Act.put, sA, sB, sC]
  refine skH 16 ⟨some 47, _, _, _, _, _⟩ rfl (by assumption) ?_
  try simp only [Act.put, sA, sB, sC]
  refine skH 17 ⟨some 48, _, _, _, _, _⟩ rfl (by assumption) ?_
  try simp only [Act.put, sA, sB, sC]
  refine skH 18 ⟨some 49, _, _, _, _, _⟩ rfl (by assumption) ?_
  try simp only [Act.put, sA, sB, sC]
  refine skH 19 ⟨some 50, _, _, _, _, _⟩ rfl (by assumption) ?_
  try simp only [Act.put, sA, sB, sC]
  refine skH 20 ⟨some 51, _, _, _, _, _⟩ rfl (by assumption) ?_
  try simp only [Act.put, sA, sB, sC]
  refine skH 21 ⟨some 52, _, _, _, _, _⟩ rfl (by assumption) ?_
  try simp only [Act.put, sA, sB, sC]
  refine skH 22 ⟨some 53, _, _, _, _, _⟩ rfl (by assumption) ?_
  try simp only [Act.put, sA, sB, sC]
  refine skH 23 ⟨some 54, _, _, _, _, _⟩ rfl (by assumption) ?_
  try simp only [Act.put, sA, sB, sC]
  refine skH 24 ⟨some 55, _, _, _, _, _⟩ rfl (by assumption) ?_
  try simp only [Act.put, sA, sB, sC]
  refine skH 25 ⟨some 56, _, _, _, _, _⟩ rfl (by assumption) ?_
  try simp only [Act.put, sA, sB, sC]
  refine skH 26 ⟨some 57, _, _, _, _, _⟩ rfl (by assumption) ?_
  try simp only [Act.put, sA, sB, sC]
  refine tkH 27 ⟨some 58, _, _, _, _, _⟩ ?_ rfl ?_ (by assumption) ?_
  rotate_left
  · (intro w hSw; (try dsimp only at hSw); go_simp; all_goals with_reducible rfl)
  try simp only [Act.put, sA, sB, sC]
  refine tkH 28 ⟨some 6, _, _, _, _, _⟩ ?_ rfl ?_ (by assumption) ?_
  rotate_left
  · (intro w hSw; (try dsimp only at hSw); go_simp; all_goals with_reducible rfl)
  try simp only [Act.put, sA, sB, sC]
  refine tkH 29 ⟨some 7, _, _, _, _, _⟩ ?_ rfl ?_ (by assumption) ?_
  rotate_left
  · (intro w hSw; (try dsimp only at hSw); go_simp; all_goals with_reducible rfl)
  try simp only [Act.put, sA, sB, sC]
  refine wpAnyH_done (by kernel_rfl) ?_ _
  go_wp2
  go_ret2
  exact ⟨rfl, (by (repeat (first | (with_reducible refine Below.drew ?_) | (with_reducible refine below_drewN ?_ _) | (with_reducible refine Below.alloc ?_ (by first | omega | (simp; done) | (simp; omega) | (simp at *; omega)) _) | (with_reducible refine Below.setCell ?_ (by first | omega | (simp; done) | (simp; omega) | (simp at *; omega)) _) | (with_reducible exact Below.refl _ _) | (with_reducible assumption) | (with_reducible refine Below.trans ?_ (Below.mono (by assumption) (by first | omega | (simp; done) | (simp; omega) | (simp at *; omega)))))))⟩
theorem inB_neg (x M : Int) : inB (-x) (-M) M = inB x (-M) M := by
  rw [Bool.eq_iff_iff, inB_iff, inB_iff]; omega
theorem refMatches_any (a b c o h t E : Int) (B : Bool) (w : World) (hE : Hid (mtE a b c o h t = E)) (hB : Hid (mtB a b c o h t = B)) : Calls Try.prog 42 #[.agg #[.int .i64 a, .int .i64 b, .int .i64 c], .agg #[.int .i64 o, .int .i64 h], .int .i64 t] w fun e w' => e = .returned (.tuple #[.bool B, .int .i64 E]) ∧ Below w.heap.size w w' := by
  have he := hE.out
  have hb := hB.out
  by_cases hz : mtE a b c o h t = 0
  · have hz' := hz
    unfold mtE at hz
    by_cases hc : conB a b c = true
    · rw [if_pos hc] at hz
      by_cases hg : gasE o h = 0
      · rw [if_pos hg] at hz
        by_cases hs : a + b + c = 0
        · rw [if_pos hs] at hz; omega
        · rw [if_neg hs] at hz
          obtain ⟨a0, b0, c0, s1⟩ := conB_iff.1 hc
          have ht : inB t 0 1000 = true := by
            rcases inB_cases t 0 1000 with h1 | h1
            · exact h1
            · rw [rngE_f h1] at hz; omega
          obtain ⟨t0, t1⟩ := inB_iff.1 ht
          rw [hz'] at he
          subst he
          unfold mtB at hb
          rw [hz'] at hb
          have x1 : 1000 * a - o * (a + b + c) = -((a + b + c) * o - 1000 * a) := by rw [Int.mul_comm o]; omega
          have x2 : 1000 * b - h * (a + b + c) = -((a + b + c) * h - 1000 * b) := by rw [Int.mul_comm h]; omega
          have hb2 : (inB ((a + b + c) * o - 1000 * a) (-(t * (a + b + c))) (t * (a + b + c)) && inB ((a + b + c) * h - 1000 * b) (-(t * (a + b + c))) (t * (a + b + c))) = B := by simpa using hb
          rcases hp : inB ((a + b + c) * o - 1000 * a) (-(t * (a + b + c))) (t * (a + b + c)) with _ | _
          · rw [hp] at hb2
            have hb3 : false = B := by simpa using hb2
            subst hb3
            exact refMatches_false a b c o h t (a + b + c) _ _ _ _ _ w _ (Lib.hid (conE_t hc)) (Lib.hid hc) (Lib.hid hg) (Lib.hid rfl) (by simpa using hs) (by omega) s1 (Lib.hid ht) t0 t1 (Lib.hid ⟨rfl, rfl⟩) (Lib.hid ⟨x1, x2⟩) (Lib.hid rfl) (Lib.hid (by rw [inB_neg]; exact hp)) (Lib.hid rfl)
          · rw [hp] at hb2
            have hb3 : inB ((a + b + c) * h - 1000 * b) (-(t * (a + b + c))) (t * (a + b + c)) = B := by simpa using hb2
            exact refMatches_true a b c o h t (a + b + c) _ _ _ _ _ w B (Lib.hid (conE_t hc)) (Lib.hid hc) (Lib.hid hg) (Lib.hid rfl) (by simpa using hs) (by omega) s1 (Lib.hid ht) t0 t1 (Lib.hid ⟨rfl, rfl⟩) (Lib.hid ⟨x1, x2⟩) (Lib.hid rfl) (Lib.hid (by rw [inB_neg]; exact hp)) (Lib.hid (by rw [inB_neg]; exact hb3))
      · rw [if_neg hg] at hz; exact absurd hz hg
    · rw [if_neg hc] at hz; omega
  · rw [mtB_no hz] at hb
    subst hb
    unfold mtE at he hz
    by_cases hc : conB a b c = true
    · rw [if_pos hc] at he hz
      by_cases hg : gasE o h = 0
      · rw [if_pos hg] at he hz
        by_cases hs : a + b + c = 0
        · rw [if_pos hs] at he
          subst he
          exact refMatches_zero a b c o h t w (Lib.hid (conE_t hc)) (Lib.hid hc) (Lib.hid hg) (Lib.hid hs)
        · rw [if_neg hs] at he hz
          rcases inB_cases t 0 1000 with h1 | h1
          · exact absurd (rngE_t h1) hz
          · rw [rngE_f h1] at he
            subst he
            exact refMatches_far a b c o h t (a + b + c) w (Lib.hid (conE_t hc)) (Lib.hid hc) (Lib.hid hg) (Lib.hid rfl) (by simpa using hs) (Lib.hid h1)
      · rw [if_neg hg] at he
        subst he
        exact refMatches_b2 a b c o h t (gasE o h) w (Lib.hid (conE_t hc)) (Lib.hid rfl) (by simpa using hg)
    · rw [if_neg hc] at he
      subst he
      exact refMatches_b1 a b c o h t 2 w (Lib.hid (conE_f (by simpa using hc))) rfl
end Go.Proofs.Ytjkhjjmmkdfjmaa
