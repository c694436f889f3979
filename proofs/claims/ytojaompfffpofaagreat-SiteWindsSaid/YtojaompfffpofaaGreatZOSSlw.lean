import Derived.Test.YtojaompfffpofaaGreatZOSSlk
import Derived.Test.YtojaompfffpofaaGreatZOSWin
import Derived.Outline
import Derived.Test.YtojaompfffpofaaGreatZOSWIn
namespace Go.Proofs.YtojaompfffpofaaGreat
open Go.ChangeShapes Go.WideShapes Go.ChangeAt Go.RowKit
set_option linter.unusedVariables false
set_option linter.unusedSimpArgs false
attribute [local go_sem ↓] Go.wp_at_zero Go.wp_at_succ
/-- The error of a span. -/
def spnE (a b : Int) : Int := if inB a 0 1000000 = true ∧ inB b 0 1000000 = true then if b < a then 9 else if 3000 ≤ b - a then 8 else 0 else 2
theorem spnE_cases (a b : Int) : (inB a 0 1000000 = false ∧ spnE a b = 2) ∨ (inB a 0 1000000 = true ∧ inB b 0 1000000 = false ∧ spnE a b = 2) ∨ (inB a 0 1000000 = true ∧ inB b 0 1000000 = true ∧ b < a ∧ spnE a b = 9) ∨ (inB a 0 1000000 = true ∧ inB b 0 1000000 = true ∧ a ≤ b ∧ 3000 ≤ b - a ∧ spnE a b = 8) ∨ (inB a 0 1000000 = true ∧ inB b 0 1000000 = true ∧ a ≤ b ∧ b - a < 3000 ∧ spnE a b = 0) := by
  unfold spnE
  rcases inB_cases a 0 1000000 with h1 | h1
  · rcases inB_cases b 0 1000000 with h2 | h2
    · rw [if_pos ⟨h1, h2⟩]
      rcases Int.lt_or_le b a with h3 | h3
      · rw [if_pos h3]; exact Or.inr (Or.inr (Or.inl ⟨h1, h2, h3, rfl⟩))
      · rw [if_neg (by omega)]
        by_cases h4 : 3000 ≤ b - a
        · rw [if_pos h4]; exact Or.inr (Or.inr (Or.inr (Or.inl ⟨h1, h2, h3, h4, rfl⟩)))
        · rw [if_neg h4]; exact Or.inr (Or.inr (Or.inr (Or.inr ⟨h1, h2, h3, by omega, rfl⟩)))
    · rw [if_neg (fun h => by rw [h2] at h; exact Bool.false_ne_true h.2)]; exact Or.inr (Or.inl ⟨h1, h2, rfl⟩)
  · rw [if_neg (fun h => by rw [h1] at h; exact Bool.false_ne_true h.1)]; exact Or.inl ⟨h1, rfl⟩
set_option maxRecDepth 100000 in
set_option maxHeartbeats 2000000 in
theorem refSpan_is (a b E : Int) (w : World) (hE : Hid (spnE a b = E)) :
    Calls Tryz.prog 18 #[.agg #[.int .i64 a, .int .i64 b]] w fun e w' => e = .returned (.int .i64 E) ∧ Below w.heap.size w w' := by
  have hc := spnE_cases a b
  rw [hE.out] at hc
  clear hE
  rcases hc with ⟨h1, rfl⟩ | ⟨h1, h2, rfl⟩ | ⟨h1, h2, h3, rfl⟩ | ⟨h1, h2, h3, h4, rfl⟩ | ⟨h1, h2, h3, h4, rfl⟩
  · have H1 := Lib.hid h1
    clear h1
    go_enter Tryz.func18, Tryz.ntmps18
    go_wp2_with ((go_at_call 39; ((with_reducible refine (isMin_is a false _ H1).mono ?_)); rintro e w' ⟨rfl, rfl⟩))
    go_ret
    exact ⟨rfl, (by (repeat (first | (with_reducible refine Below.drew ?_) | (with_reducible refine below_drewN ?_ _) | (with_reducible refine Below.alloc ?_ (by first | omega | (simp; done) | (simp; omega) | (simp at *; omega)) _) | (with_reducible refine Below.setCell ?_ (by first | omega | (simp; done) | (simp; omega) | (simp at *; omega)) _) | (with_reducible exact Below.refl _ _) | (with_reducible assumption) | (with_reducible refine Below.trans ?_ (Below.mono (by assumption) (by first | omega | (simp; done) | (simp; omega) | (simp at *; omega)))))))⟩
  · have H1 := Lib.hid h1
    have H2 := Lib.hid h2
    clear h1 h2
    go_enter Tryz.func18, Tryz.ntmps18
    go_wp2_with (first | (go_at_call 39; ((with_reducible refine (isMin_is a true _ H1).mono ?_)); rintro e w' ⟨rfl, rfl⟩) | (go_at_call 39; ((with_reducible refine (isMin_is b false _ H2).mono ?_)); rintro e w' ⟨rfl, rfl⟩))
    go_ret
    exact ⟨rfl, (by (repeat (first | (with_reducible refine Below.drew ?_) | (with_reducible refine below_drewN ?_ _) | (with_reducible refine Below.alloc ?_ (by first | omega | (simp; done) | (simp; omega) | (simp at *; omega)) _) | (with_reducible refine Below.setCell ?_ (by first | omega | (simp; done) | (simp; omega) | (simp at *; omega)) _) | (with_reducible exact Below.refl _ _) | (with_reducible assumption) | (with_reducible refine Below.trans ?_ (Below.mono (by assumption) (by first | omega | (simp; done) | (simp; omega) | (simp at *; omega)))))))⟩
  all_goals
    have H1 := Lib.hid h1
    have H2 := Lib.hid h2
    obtain ⟨a0, a1⟩ := inB_iff.1 h1
    obtain ⟨b0, b1⟩ := inB_iff.1 h2
    have ew : IntKind.i64.wrap (b - a) = b - a := IntWalk.i64_in _ (by omega)
    clear h1 h2
    go_enter Tryz.func18, Tryz.ntmps18
    go_wp2_with (first | (go_at_call 39; ((with_reducible refine (isMin_is a true _ H1).mono ?_)); rintro e w' ⟨rfl, rfl⟩) | (go_at_call 39; ((with_reducible refine (isMin_is b true _ H2).mono ?_)); rintro e w' ⟨rfl, rfl⟩))
    go_ret
    exact ⟨rfl, (by (repeat (first | (with_reducible refine Below.drew ?_) | (with_reducible refine below_drewN ?_ _) | (with_reducible refine Below.alloc ?_ (by first | omega | (simp; done) | (simp; omega) | (simp at *; omega)) _) | (with_reducible refine Below.setCell ?_ (by first | omega | (simp; done) | (simp; omega) | (simp at *; omega)) _) | (with_reducible exact Below.refl _ _) | (with_reducible assumption) | (with_reducible refine Below.trans ?_ (Below.mono (by assumption) (by first | omega | (simp; done) | (simp; omega) | (simp at *; omega)))))))⟩
theorem endE_span (a b : Int) : endE ⟨a, b⟩ = if inB a 0 1000000 = true ∧ inB b 0 1000000 = true then (if b < a then 9 else 0) else 2 := by
  unfold endE minE
  dsimp only
  rcases inB_cases a 0 1000000 with h1 | h1
  · rcases inB_cases b 0 1000000 with h2 | h2
    · have e : firE [rngE a 0 1000000, rngE b 0 1000000] = 0 := by rw [rngE_t h1, rngE_t h2]; rfl
      rw [e, if_pos rfl, if_pos (show inB a 0 1000000 = true ∧ inB b 0 1000000 = true from ⟨h1, h2⟩)]
    · have e : firE [rngE a 0 1000000, rngE b 0 1000000] = 2 := by rw [rngE_t h1, rngE_f h2]; rfl
      rw [e, if_neg (by decide), if_neg (show ¬ (inB a 0 1000000 = true ∧ inB b 0 1000000 = true) from fun h => by rw [h2] at h; exact Bool.false_ne_true h.2)]
  · have e : firE [rngE a 0 1000000, rngE b 0 1000000] = 2 := by rw [rngE_f h1]; rfl
    rw [e, if_neg (by decide), if_neg (show ¬ (inB a 0 1000000 = true ∧ inB b 0 1000000 = true) from fun h => by rw [h1] at h; exact Bool.false_ne_true h.1)]
set_option maxRecDepth 100000 in
set_option maxHeartbeats 2000000 in
theorem checkSpan_is (a b E : Int) (w : World) (hE : Hid (spnE a b = E)) :
    Calls Tryz.prog 67 #[.agg #[.int .i64 a, .int .i64 b]] w fun e w' => e = .returned (.int .i64 E) ∧ Below w.heap.size w w' := by
  have hc := spnE_cases a b
  rw [hE.out] at hc
  clear hE
  obtain ⟨F, hF⟩ : ∃ F, Hid (endE ⟨a, b⟩ = F) := ⟨_, Lib.hid rfl⟩
  have hf := hF.out
  rw [endE_span] at hf
  rcases hc with ⟨h1, rfl⟩ | ⟨h1, h2, rfl⟩ | ⟨h1, h2, h3, rfl⟩ | ⟨h1, h2, h3, h4, rfl⟩ | ⟨h1, h2, h3, h4, rfl⟩
  · rw [if_neg (fun h => by rw [h1] at h; exact Bool.false_ne_true h.1)] at hf
    subst hf
    clear h1
    go_enter Tryz.func67, Tryz.ntmps67
    go_wp2_with ((go_at_call 81; ((with_reducible refine (checkEnds_is a b _ _ hF).mono ?_)); rintro e w1 ⟨rfl, hbw⟩; obtain ⟨hbc, hbf⟩ := bcell hbw; have hbs := hbw.size))
    go_ret
    exact ⟨rfl, (by (repeat (first | (with_reducible refine Below.drew ?_) | (with_reducible refine below_drewN ?_ _) | (with_reducible refine Below.alloc ?_ (by first | omega | (simp; done) | (simp; omega) | (simp at *; omega)) _) | (with_reducible refine Below.setCell ?_ (by first | omega | (simp; done) | (simp; omega) | (simp at *; omega)) _) | (with_reducible exact Below.refl _ _) | (with_reducible assumption) | (with_reducible refine Below.trans ?_ (Below.mono (by assumption) (by first | omega | (simp; done) | (simp; omega) | (simp at *; omega)))))))⟩
  · rw [if_neg (fun h => by rw [h2] at h; exact Bool.false_ne_true h.2)] at hf
    subst hf
    clear h1 h2
    go_enter Tryz.func67, Tryz.ntmps67
    go_wp2_with ((go_at_call 81; ((with_reducible refine (checkEnds_is a b _ _ hF).mono ?_)); rintro e w1 ⟨rfl, hbw⟩; obtain ⟨hbc, hbf⟩ := bcell hbw; have hbs := hbw.size))
    go_ret
    exact ⟨rfl, (by (repeat (first | (with_reducible refine Below.drew ?_) | (with_reducible refine below_drewN ?_ _) | (with_reducible refine Below.alloc ?_ (by first | omega | (simp; done) | (simp; omega) | (simp at *; omega)) _) | (with_reducible refine Below.setCell ?_ (by first | omega | (simp; done) | (simp; omega) | (simp at *; omega)) _) | (with_reducible exact Below.refl _ _) | (with_reducible assumption) | (with_reducible refine Below.trans ?_ (Below.mono (by assumption) (by first | omega | (simp; done) | (simp; omega) | (simp at *; omega)))))))⟩
  · rw [if_pos ⟨h1, h2⟩, if_pos h3] at hf
    subst hf
    clear h1 h2
    go_enter Tryz.func67, Tryz.ntmps67
    go_wp2_with ((go_at_call 81; ((with_reducible refine (checkEnds_is a b _ _ hF).mono ?_)); rintro e w1 ⟨rfl, hbw⟩; obtain ⟨hbc, hbf⟩ := bcell hbw; have hbs := hbw.size))
    go_ret
    exact ⟨rfl, (by (repeat (first | (with_reducible refine Below.drew ?_) | (with_reducible refine below_drewN ?_ _) | (with_reducible refine Below.alloc ?_ (by first | omega | (simp; done) | (simp; omega) | (simp at *; omega)) _) | (with_reducible refine Below.setCell ?_ (by first | omega | (simp; done) | (simp; omega) | (simp at *; omega)) _) | (with_reducible exact Below.refl _ _) | (with_reducible assumption) | (with_reducible refine Below.trans ?_ (Below.mono (by assumption) (by first | omega | (simp; done) | (simp; omega) | (simp at *; omega)))))))⟩
  all_goals
    rw [if_pos ⟨h1, h2⟩, if_neg (by omega)] at hf
    subst hf
    obtain ⟨a0, a1⟩ := inB_iff.1 h1
    obtain ⟨b0, b1⟩ := inB_iff.1 h2
    have gg : (3000 < b - a + 1 ↔ 3000 ≤ b - a) := by omega
    clear h1 h2 gg
    go_enter Tryz.func67, Tryz.ntmps67
    go_wp2_with (first | (go_at_call 81; refine (checkEnds_is a b _ _ hF).mono ?_; rintro e w1 ⟨rfl, hb1⟩; have z1 := hb1.size; try simp at z1; have c0 : w1.cell? ⟨w.heap.size, 0, none⟩ = some (.int .i64 a) := (by rw [(bcell hb1).1 _ _ (by first | (simp; done) | (simp; omega) | omega)]; simp [go_sem, World.cell?_alloc_past, *]); have c1 : w1.cell? ⟨w.heap.size, 1, none⟩ = some (.int .i64 b) := (by rw [(bcell hb1).1 _ _ (by first | (simp; done) | (simp; omega) | omega)]; simp [go_sem, World.cell?_alloc_past, *])) | ((go_at_call 105; ((with_reducible refine (minutesIn_is a b _ a0 a1 b0 b1).mono ?_)); rintro e w2 ⟨rfl, hbw2⟩; obtain ⟨hbc2, hbf2⟩ := bcell hbw2; have hbs2 := hbw2.size)))
    go_ret
    exact ⟨rfl, (by (repeat (first | (with_reducible refine Below.drew ?_) | (with_reducible refine below_drewN ?_ _) | (with_reducible refine Below.alloc ?_ (by first | omega | (simp; done) | (simp; omega) | (simp at *; omega)) _) | (with_reducible refine Below.setCell ?_ (by first | omega | (simp; done) | (simp; omega) | (simp at *; omega)) _) | (with_reducible exact Below.refl _ _) | (with_reducible assumption) | (with_reducible refine Below.trans ?_ (Below.mono (by assumption) (by first | omega | (simp; done) | (simp; omega) | (simp at *; omega)))))))⟩
end Go.Proofs.YtojaompfffpofaaGreat

namespace Go.Proofs.YtojaompfffpofaaGreat
open Go.ChangeShapes Go.WideShapes Go.ChangeAt Go.RowKit
set_option linter.unusedVariables false
set_option linter.unusedSimpArgs false
attribute [local go_sem ↓] Go.wp_at_zero Go.wp_at_succ
theorem spnE_ok {a b : Int} (h : spnE a b = 0) : 0 ≤ a ∧ a ≤ b ∧ b ≤ 1000000 ∧ b - a < 3000 := by
  rcases spnE_cases a b with ⟨_, h1⟩ | ⟨_, _, h1⟩ | ⟨_, _, _, h1⟩ | ⟨_, _, _, _, h1⟩ | ⟨h1, h2, h3, h4, _⟩
  · omega
  · omega
  · omega
  · omega
  · rw [inB_iff] at h1 h2; omega
end Go.Proofs.YtojaompfffpofaaGreat
