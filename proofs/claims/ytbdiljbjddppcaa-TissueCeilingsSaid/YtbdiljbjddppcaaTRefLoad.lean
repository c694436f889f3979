/- The specification's checks of loads, and whether loads lie in others: shotlineref03.span, CheckLoad, inside, Inside. -/
import Derived.Test.YtbdiljbjddppcaaTInside
import Derived.Outline
namespace Go.Proofs.Ytbdiljbjddppcaa
open Go.ChangeShapes Go.WideShapes Go.ChangeAt Go.RowKit
set_option linter.unusedVariables false
set_option linter.unusedSimpArgs false
attribute [local go_sem ↓] Go.wp_at_zero Go.wp_at_succ
def spnE (a b : Int) : Int := if inB a 0 100000000 = true then if inB b 0 100000000 = true then 0 else 2 else 2
set_option maxRecDepth 100000 in
theorem span_any (a b : Int) (w : World) :
    Calls Try.prog 91 #[.agg #[.int .i64 a, .int .i64 b]] w fun e w' => e = .returned (.int .i64 (spnE a b)) ∧ Below w.heap.size w w' := by
  obtain ⟨E, hE⟩ : ∃ x, Hid (spnE a b = x) := ⟨_, rfl⟩
  rw [hE.out]
  have hb : ∀ (n : Int) (r : Bool) (w : World), inB n 0 100000000 = r → Calls Try.prog 23 #[.int .i64 n, .int .i64 0, .int .i64 100000000] w fun e w' => e = .returned (.bool r) ∧ w = w' := fun n r w h => by rw [← h]; exact baseWithin_any n 0 100000000 w
  rcases inB_cases a 0 100000000 with h1 | h1
  · rcases inB_cases b 0 100000000 with h2 | h2
    · have hr : Hid (E = 0) := by show _ = _; rw [← hE.out, spnE, if_pos h1, if_pos h2]
      have HA := Lib.hid (fun w => hb a true w h1)
      have HB := Lib.hid (fun w => hb b true w h2)
      clear hE h1 h2 hb
      go_enter Try.func91, Try.ntmps91
      go_wp2_with (first | (go_at_call 23; ((with_reducible refine (HA.out _).mono ?_)); rintro e w' ⟨rfl, rfl⟩) | (go_at_call 23; ((with_reducible refine (HB.out _).mono ?_)); rintro e w' ⟨rfl, rfl⟩))
      go_ret
      exact ⟨ret_int hr.out.symm, (by (repeat (first | (with_reducible refine Below.drew ?_) | (with_reducible refine below_drewN ?_ _) | (with_reducible refine Below.alloc ?_ (by first | omega | (simp; done) | (simp; omega) | (simp at *; omega)) _) | (with_reducible refine Below.setCell ?_ (by first | omega | (simp; done) | (simp; omega) | (simp at *; omega)) _) | (with_reducible exact Below.refl _ _) | (with_reducible assumption) | (with_reducible refine Below.trans ?_ (Below.mono (by assumption) (by first | omega | (simp; done) | (simp; omega) | (simp at *; omega)))))))⟩
    · have hr : Hid (E = 2) := by show _ = _; rw [← hE.out, spnE, if_pos h1, if_neg (by rw [h2]; exact Bool.false_ne_true)]
      have HA := Lib.hid (fun w => hb a true w h1)
      have HB := Lib.hid (fun w => hb b false w h2)
      clear hE h1 h2 hb
      go_enter Try.func91, Try.ntmps91
      go_wp2_with (first | (go_at_call 23; ((with_reducible refine (HA.out _).mono ?_)); rintro e w' ⟨rfl, rfl⟩) | (go_at_call 23; ((with_reducible refine (HB.out _).mono ?_)); rintro e w' ⟨rfl, rfl⟩))
      go_ret
      exact ⟨ret_int hr.out.symm, (by (repeat (first | (with_reducible refine Below.drew ?_) | (with_reducible refine below_drewN ?_ _) | (with_reducible refine Below.alloc ?_ (by first | omega | (simp; done) | (simp; omega) | (simp at *; omega)) _) | (with_reducible refine Below.setCell ?_ (by first | omega | (simp; done) | (simp; omega) | (simp at *; omega)) _) | (with_reducible exact Below.refl _ _) | (with_reducible assumption) | (with_reducible refine Below.trans ?_ (Below.mono (by assumption) (by first | omega | (simp; done) | (simp; omega) | (simp at *; omega)))))))⟩
  · have hr : Hid (E = 2) := by show _ = _; rw [← hE.out, spnE, if_neg (by rw [h1]; exact Bool.false_ne_true)]
    have HA := Lib.hid (fun w => hb a false w h1)
    clear hE h1 hb
    go_enter Try.func91, Try.ntmps91
    go_wp2_with ((go_at_call 23; ((with_reducible refine (HA.out _).mono ?_)); rintro e w' ⟨rfl, rfl⟩))
    go_ret
    exact ⟨ret_int hr.out.symm, (by (repeat (first | (with_reducible refine Below.drew ?_) | (with_reducible refine below_drewN ?_ _) | (with_reducible refine Below.alloc ?_ (by first | omega | (simp; done) | (simp; omega) | (simp at *; omega)) _) | (with_reducible refine Below.setCell ?_ (by first | omega | (simp; done) | (simp; omega) | (simp at *; omega)) _) | (with_reducible exact Below.refl _ _) | (with_reducible assumption) | (with_reducible refine Below.trans ?_ (Below.mono (by assumption) (by first | omega | (simp; done) | (simp; omega) | (simp at *; omega)))))))⟩
theorem spnE_cases (a b : Int) : (spnE a b = 0 ∧ inB a 0 100000000 = true ∧ inB b 0 100000000 = true) ∨ (spnE a b = 2 ∧ (inB a 0 100000000 = false ∨ (inB a 0 100000000 = true ∧ inB b 0 100000000 = false))) := by
  rcases inB_cases a 0 100000000 with h1 | h1
  · rcases inB_cases b 0 100000000 with h2 | h2
    · exact Or.inl ⟨by rw [spnE, if_pos h1, if_pos h2], h1, h2⟩
    · exact Or.inr ⟨by rw [spnE, if_pos h1, if_neg (by rw [h2]; exact Bool.false_ne_true)], Or.inr ⟨h1, h2⟩⟩
  · exact Or.inr ⟨by rw [spnE, if_neg (by rw [h1]; exact Bool.false_ne_true)], Or.inl h1⟩
theorem span_is (a b r : Int) (w : World) (hr : Hid (spnE a b = r)) :
    Calls Try.prog 91 #[.agg #[.int .i64 a, .int .i64 b]] w fun e w' => e = .returned (.int .i64 r) ∧ Below w.heap.size w w' := by
  rw [← hr.out]; exact span_any a b w
theorem lodE_first {a b c d : Int} (h : spnE a b = 2) : lodE a b c d = 2 := by
  rcases spnE_cases a b with ⟨h0, _⟩ | ⟨_, h1 | ⟨h1, h2⟩⟩
  · rw [h] at h0; cases h0
  · exact lodE_1 h1
  · exact lodE_2 h1 h2
theorem lodE_second {a b c d : Int} (h : spnE a b = 0) (h' : spnE c d = 2) : lodE a b c d = 2 := by
  rcases spnE_cases a b with ⟨_, k1, k2⟩ | ⟨h0, _⟩
  · rcases spnE_cases c d with ⟨h0, _⟩ | ⟨_, h1 | ⟨h1, h2⟩⟩
    · rw [h'] at h0; cases h0
    · exact lodE_3 k1 k2 h1
    · exact lodE_4 k1 k2 h1 h2
  · rw [h] at h0; cases h0
theorem lodE_third {a b c d : Int} (h : spnE a b = 0) (h' : spnE c d = 0) : lodE a b c d = if b < a then 9 else if d < c then 9 else 0 := by
  rcases spnE_cases a b with ⟨_, k1, k2⟩ | ⟨h0, _⟩
  · rcases spnE_cases c d with ⟨_, k3, k4⟩ | ⟨h0, _⟩
    · by_cases h5 : b < a
      · rw [lodE_5 k1 k2 k3 k4 h5, if_pos h5]
      · by_cases h6 : d < c
        · rw [lodE_6 k1 k2 k3 k4 h5 h6, if_neg h5, if_pos h6]
        · rw [lodE_7 k1 k2 k3 k4 h5 h6, if_neg h5, if_neg h6]
    · rw [h'] at h0; cases h0
  · rw [h] at h0; cases h0
set_option maxRecDepth 100000 in
set_option maxHeartbeats 1000000 in
theorem refCheckLoad_any (a b c d : Int) (w : World) :
    Calls Try.prog 49 #[.agg #[.int .i64 a, .int .i64 b, .int .i64 c, .int .i64 d]] w fun e w' => e = .returned (.int .i64 (lodE a b c d)) ∧ Below w.heap.size w w' := by
  obtain ⟨E, hE⟩ : ∃ x, Hid (lodE a b c d = x) := ⟨_, rfl⟩
  rw [hE.out]
  rcases spnE_cases a b with ⟨h0, _⟩ | ⟨h0, _⟩
  · have H1 := Lib.hid h0
    rcases spnE_cases c d with ⟨h1, _⟩ | ⟨h1, _⟩
    · have H2 := Lib.hid h1
      have hF := lodE_third h0 h1
      rw [hE.out] at hF
      clear h0 h1 hE
      by_cases h5 : b < a
      · have hr : Hid (E = 9) := by show _ = _; rw [hF, if_pos h5]
        clear hF
        go_enter Try.func49, Try.ntmps49
        go_wp2_with fail
        refine (span_is _ _ _ _ H1).mono ?_
        rintro e w1 ⟨rfl, hb1⟩
        have k0 : w1.cell? ⟨w.heap.size, 0, none⟩ = some (.int .i64 a) := by rw [(bcell hb1).1 _ _ (by simp)]; simp [go_sem]
        have k1 : w1.cell? ⟨w.heap.size, 1, none⟩ = some (.int .i64 b) := by rw [(bcell hb1).1 _ _ (by simp)]; simp [go_sem]
        have k2 : w1.cell? ⟨w.heap.size, 2, none⟩ = some (.int .i64 c) := by rw [(bcell hb1).1 _ _ (by simp)]; simp [go_sem]
        have k3 : w1.cell? ⟨w.heap.size, 3, none⟩ = some (.int .i64 d) := by rw [(bcell hb1).1 _ _ (by simp)]; simp [go_sem]
        have hB1 : Below w.heap.size w w1 := (by (repeat (first | (with_reducible refine Below.drew ?_) | (with_reducible refine below_drewN ?_ _) | (with_reducible refine Below.alloc ?_ (by first | omega | (simp; done) | (simp; omega) | (simp at *; omega)) _) | (with_reducible refine Below.setCell ?_ (by first | omega | (simp; done) | (simp; omega) | (simp at *; omega)) _) | (with_reducible exact Below.refl _ _) | (with_reducible assumption) | (with_reducible refine Below.trans ?_ (Below.mono (by assumption) (by first | omega | (simp; done) | (simp; omega) | (simp at *; omega)))))))
        have l1 : w.heap.size < w1.heap.size := by have := hb1.size; simp at this; omega
        clear hb1
        go_wp2_with fail
        refine (span_is _ _ _ _ H2).mono ?_
        rintro e w2 ⟨rfl, hb2⟩
        replace k0 := (hb2.cell (p := ⟨w.heap.size, 0, none⟩) l1).trans k0
        replace k1 := (hb2.cell (p := ⟨w.heap.size, 1, none⟩) l1).trans k1
        replace k2 := (hb2.cell (p := ⟨w.heap.size, 2, none⟩) l1).trans k2
        replace k3 := (hb2.cell (p := ⟨w.heap.size, 3, none⟩) l1).trans k3
        have hB2 : Below w.heap.size w w2 := hB1.trans (hb2.mono hB1.size)
        clear hb2
        go_wp2
        go_ret
        exact ⟨ret_int hr.out.symm, hB2⟩
      · by_cases h6 : d < c
        · have hr : Hid (E = 9) := by show _ = _; rw [hF, if_neg h5, if_pos h6]
          clear hF
          go_enter Try.func49, Try.ntmps49
          go_wp2_with fail
          refine (span_is _ _ _ _ H1).mono ?_
          rintro e w1 ⟨rfl, hb1⟩
          have k0 : w1.cell? ⟨w.heap.size, 0, none⟩ = some (.int .i64 a) := by rw [(bcell hb1).1 _ _ (by simp)]; simp [go_sem]
          have k1 : w1.cell? ⟨w.heap.size, 1, none⟩ = some (.int .i64 b) := by rw [(bcell hb1).1 _ _ (by simp)]; simp [go_sem]
          have k2 : w1.cell? ⟨w.heap.size, 2, none⟩ = some (.int .i64 c) := by rw [(bcell hb1).1 _ _ (by simp)]; simp [go_sem]
          have k3 : w1.cell? ⟨w.heap.size, 3, none⟩ = some (.int .i64 d) := by rw [(bcell hb1).1 _ _ (by simp)]; simp [go_sem]
          have hB1 : Below w.heap.size w w1 := (by (repeat (first | (with_reducible refine Below.drew ?_) | (with_reducible refine below_drewN ?_ _) | (with_reducible refine Below.alloc ?_ (by first | omega | (simp; done) | (simp; omega) | (simp at *; omega)) _) | (with_reducible refine Below.setCell ?_ (by first | omega | (simp; done) | (simp; omega) | (simp at *; omega)) _) | (with_reducible exact Below.refl _ _) | (with_reducible assumption) | (with_reducible refine Below.trans ?_ (Below.mono (by assumption) (by first | omega | (simp; done) | (simp; omega) | (simp at *; omega)))))))
          have l1 : w.heap.size < w1.heap.size := by have := hb1.size; simp at this; omega
          clear hb1
          go_wp2_with fail
          refine (span_is _ _ _ _ H2).mono ?_
          rintro e w2 ⟨rfl, hb2⟩
          replace k0 := (hb2.cell (p := ⟨w.heap.size, 0, none⟩) l1).trans k0
          replace k1 := (hb2.cell (p := ⟨w.heap.size, 1, none⟩) l1).trans k1
          replace k2 := (hb2.cell (p := ⟨w.heap.size, 2, none⟩) l1).trans k2
          replace k3 := (hb2.cell (p := ⟨w.heap.size, 3, none⟩) l1).trans k3
          have hB2 : Below w.heap.size w w2 := hB1.trans (hb2.mono hB1.size)
          clear hb2
          go_wp2
          go_ret
          exact ⟨ret_int hr.out.symm, hB2⟩
        · have hr : Hid (E = 0) := by show _ = _; rw [hF, if_neg h5, if_neg h6]
          clear hF
          go_enter Try.func49, Try.ntmps49
          go_wp2_with fail
          refine (span_is _ _ _ _ H1).mono ?_
          rintro e w1 ⟨rfl, hb1⟩
          have k0 : w1.cell? ⟨w.heap.size, 0, none⟩ = some (.int .i64 a) := by rw [(bcell hb1).1 _ _ (by simp)]; simp [go_sem]
          have k1 : w1.cell? ⟨w.heap.size, 1, none⟩ = some (.int .i64 b) := by rw [(bcell hb1).1 _ _ (by simp)]; simp [go_sem]
          have k2 : w1.cell? ⟨w.heap.size, 2, none⟩ = some (.int .i64 c) := by rw [(bcell hb1).1 _ _ (by simp)]; simp [go_sem]
          have k3 : w1.cell? ⟨w.heap.size, 3, none⟩ = some (.int .i64 d) := by rw [(bcell hb1).1 _ _ (by simp)]; simp [go_sem]
          have hB1 : Below w.heap.size w w1 := (by (repeat (first | (with_reducible refine Below.drew ?_) | (with_reducible refine below_drewN ?_ _) | (with_reducible refine Below.alloc ?_ (by first | omega | (simp; done) | (simp; omega) | (simp at *; omega)) _) | (with_reducible refine Below.setCell ?_ (by first | omega | (simp; done) | (simp; omega) | (simp at *; omega)) _) | (with_reducible exact Below.refl _ _) | (with_reducible assumption) | (with_reducible refine Below.trans ?_ (Below.mono (by assumption) (by first | omega | (simp; done) | (simp; omega) | (simp at *; omega)))))))
          have l1 : w.heap.size < w1.heap.size := by have := hb1.size; simp at this; omega
          clear hb1
          go_wp2_with fail
          refine (span_is _ _ _ _ H2).mono ?_
          rintro e w2 ⟨rfl, hb2⟩
          replace k0 := (hb2.cell (p := ⟨w.heap.size, 0, none⟩) l1).trans k0
          replace k1 := (hb2.cell (p := ⟨w.heap.size, 1, none⟩) l1).trans k1
          replace k2 := (hb2.cell (p := ⟨w.heap.size, 2, none⟩) l1).trans k2
          replace k3 := (hb2.cell (p := ⟨w.heap.size, 3, none⟩) l1).trans k3
          have hB2 : Below w.heap.size w w2 := hB1.trans (hb2.mono hB1.size)
          clear hb2
          go_wp2
          go_ret
          exact ⟨ret_int hr.out.symm, hB2⟩
    · have H2 := Lib.hid h1
      have hr : Hid (E = 2) := by show _ = _; rw [← hE.out, lodE_second h0 h1]
      clear h0 h1 hE
      go_enter Try.func49, Try.ntmps49
      go_wp2_with fail
      refine (span_is _ _ _ _ H1).mono ?_
      rintro e w1 ⟨rfl, hb1⟩
      have k0 : w1.cell? ⟨w.heap.size, 0, none⟩ = some (.int .i64 a) := by rw [(bcell hb1).1 _ _ (by simp)]; simp [go_sem]
      have k1 : w1.cell? ⟨w.heap.size, 1, none⟩ = some (.int .i64 b) := by rw [(bcell hb1).1 _ _ (by simp)]; simp [go_sem]
      have k2 : w1.cell? ⟨w.heap.size, 2, none⟩ = some (.int .i64 c) := by rw [(bcell hb1).1 _ _ (by simp)]; simp [go_sem]
      have k3 : w1.cell? ⟨w.heap.size, 3, none⟩ = some (.int .i64 d) := by rw [(bcell hb1).1 _ _ (by simp)]; simp [go_sem]
      have hB1 : Below w.heap.size w w1 := (by (repeat (first | (with_reducible refine Below.drew ?_) | (with_reducible refine below_drewN ?_ _) | (with_reducible refine Below.alloc ?_ (by first | omega | (simp; done) | (simp; omega) | (simp at *; omega)) _) | (with_reducible refine Below.setCell ?_ (by first | omega | (simp; done) | (simp; omega) | (simp at *; omega)) _) | (with_reducible exact Below.refl _ _) | (with_reducible assumption) | (with_reducible refine Below.trans ?_ (Below.mono (by assumption) (by first | omega | (simp; done) | (simp; omega) | (simp at *; omega)))))))
      have l1 : w.heap.size < w1.heap.size := by have := hb1.size; simp at this; omega
      clear hb1
      go_wp2_with fail
      refine (span_is _ _ _ _ H2).mono ?_
      rintro e w2 ⟨rfl, hb2⟩
      replace k0 := (hb2.cell (p := ⟨w.heap.size, 0, none⟩) l1).trans k0
      replace k1 := (hb2.cell (p := ⟨w.heap.size, 1, none⟩) l1).trans k1
      replace k2 := (hb2.cell (p := ⟨w.heap.size, 2, none⟩) l1).trans k2
      replace k3 := (hb2.cell (p := ⟨w.heap.size, 3, none⟩) l1).trans k3
      have hB2 : Below w.heap.size w w2 := hB1.trans (hb2.mono hB1.size)
      clear hb2
      go_wp2
      go_ret
      exact ⟨ret_int hr.out.symm, hB2⟩
  · have H1 := Lib.hid h0
    have hr : Hid (E = 2) := by show _ = _; rw [← hE.out, lodE_first h0]
    clear h0 hE
    go_enter Try.func49, Try.ntmps49
    go_wp2_with ((go_at_call 91; ((with_reducible refine (span_is _ _ _ _ H1).mono ?_)); rintro e w1 ⟨rfl, hbw⟩; obtain ⟨hbc, hbf⟩ := bcell hbw; have hbs := hbw.size))
    go_ret
    exact ⟨ret_int hr.out.symm, (by (repeat (first | (with_reducible refine Below.drew ?_) | (with_reducible refine below_drewN ?_ _) | (with_reducible refine Below.alloc ?_ (by first | omega | (simp; done) | (simp; omega) | (simp at *; omega)) _) | (with_reducible refine Below.setCell ?_ (by first | omega | (simp; done) | (simp; omega) | (simp at *; omega)) _) | (with_reducible exact Below.refl _ _) | (with_reducible assumption) | (with_reducible refine Below.trans ?_ (Below.mono (by assumption) (by first | omega | (simp; done) | (simp; omega) | (simp at *; omega)))))))⟩
end Go.Proofs.Ytbdiljbjddppcaa
