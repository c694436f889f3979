import Derived.Test.YtfaodlcfjhnhbaaTInside
import Derived.Outline
import Derived.Test.YtfaodlcfjhnhbaaMLimits
import Derived.Deep.DrawnRows
/- The specification's checks of loads, and whether loads lie in others: shotlineref03.span, CheckLoad, inside, Inside. -/
namespace Go.Proofs.Ytfaodlcfjhnhbaa
open Go.ChangeShapes Go.WideShapes Go.ChangeAt Go.RowKit
set_option linter.unusedVariables false
set_option linter.unusedSimpArgs false
attribute [local go_sem ↓] Go.wp_at_zero Go.wp_at_succ
def spnE (a b : Int) : Int := if inB a 0 100000000 = true then if inB b 0 100000000 = true then 0 else 2 else 2
set_option maxRecDepth 100000 in
theorem span_any (a b : Int) (w : World) :
    Calls Try.prog 47 #[.agg #[.int .i64 a, .int .i64 b]] w fun e w' => e = .returned (.int .i64 (spnE a b)) ∧ Below w.heap.size w w' := by
  obtain ⟨E, hE⟩ : ∃ x, Hid (spnE a b = x) := ⟨_, rfl⟩
  rw [hE.out]
  have hb : ∀ (n : Int) (r : Bool) (w : World), inB n 0 100000000 = r → Calls Try.prog 22 #[.int .i64 n, .int .i64 0, .int .i64 100000000] w fun e w' => e = .returned (.bool r) ∧ w = w' := fun n r w h => by rw [← h]; exact baseWithin_any n 0 100000000 w
  rcases inB_cases a 0 100000000 with h1 | h1
  · rcases inB_cases b 0 100000000 with h2 | h2
    · have hr : Hid (E = 0) := by show _ = _; rw [← hE.out, spnE, if_pos h1, if_pos h2]
      have HA := Lib.hid (fun w => hb a true w h1)
      have HB := Lib.hid (fun w => hb b true w h2)
      clear hE h1 h2 hb
      go_enter Try.func47, Try.ntmps47
      go_wp2_with (first | (go_at_call 22; ((with_reducible refine (HA.out _).mono ?_)); rintro e w' ⟨rfl, rfl⟩) | (go_at_call 22; ((with_reducible refine (HB.out _).mono ?_)); rintro e w' ⟨rfl, rfl⟩))
      go_ret
      exact ⟨ret_int hr.out.symm, (by (repeat (first | (with_reducible refine Below.drew ?_) | (with_reducible refine below_drewN ?_ _) | (with_reducible refine Below.alloc ?_ (by first | omega | (simp; done) | (simp; omega) | (simp at *; omega)) _) | (with_reducible refine Below.setCell ?_ (by first | omega | (simp; done) | (simp; omega) | (simp at *; omega)) _) | (with_reducible exact Below.refl _ _) | (with_reducible assumption) | (with_reducible refine Below.trans ?_ (Below.mono (by assumption) (by first | omega | (simp; done) | (simp; omega) | (simp at *; omega)))))))⟩
    · have hr : Hid (E = 2) := by show _ = _; rw [← hE.out, spnE, if_pos h1, if_neg (by rw [h2]; exact Bool.false_ne_true)]
      have HA := Lib.hid (fun w => hb a true w h1)
      have HB := Lib.hid (fun w => hb b false w h2)
      clear hE h1 h2 hb
      go_enter Try.func47, Try.ntmps47
      go_wp2_with (first | (go_at_call 22; ((with_reducible refine (HA.out _).mono ?_)); rintro e w' ⟨rfl, rfl⟩) | (go_at_call 22; ((with_reducible refine (HB.out _).mono ?_)); rintro e w' ⟨rfl, rfl⟩))
      go_ret
      exact ⟨ret_int hr.out.symm, (by (repeat (first | (with_reducible refine Below.drew ?_) | (with_reducible refine below_drewN ?_ _) | (with_reducible refine Below.alloc ?_ (by first | omega | (simp; done) | (simp; omega) | (simp at *; omega)) _) | (with_reducible refine Below.setCell ?_ (by first | omega | (simp; done) | (simp; omega) | (simp at *; omega)) _) | (with_reducible exact Below.refl _ _) | (with_reducible assumption) | (with_reducible refine Below.trans ?_ (Below.mono (by assumption) (by first | omega | (simp; done) | (simp; omega) | (simp at *; omega)))))))⟩
  · have hr : Hid (E = 2) := by show _ = _; rw [← hE.out, spnE, if_neg (by rw [h1]; exact Bool.false_ne_true)]
    have HA := Lib.hid (fun w => hb a false w h1)
    clear hE h1 hb
    go_enter Try.func47, Try.ntmps47
    go_wp2_with ((go_at_call 22; ((with_reducible refine (HA.out _).mono ?_)); rintro e w' ⟨rfl, rfl⟩))
    go_ret
    exact ⟨ret_int hr.out.symm, (by (repeat (first | (with_reducible refine Below.drew ?_) | (with_reducible refine below_drewN ?_ _) | (with_reducible refine Below.alloc ?_ (by first | omega | (simp; done) | (simp; omega) | (simp at *; omega)) _) | (with_reducible refine Below.setCell ?_ (by first | omega | (simp; done) | (simp; omega) | (simp at *; omega)) _) | (with_reducible exact Below.refl _ _) | (with_reducible assumption) | (with_reducible refine Below.trans ?_ (Below.mono (by assumption) (by first | omega | (simp; done) | (simp; omega) | (simp at *; omega)))))))⟩
theorem spnE_cases (a b : Int) : (spnE a b = 0 ∧ inB a 0 100000000 = true ∧ inB b 0 100000000 = true) ∨ (spnE a b = 2 ∧ (inB a 0 100000000 = false ∨ (inB a 0 100000000 = true ∧ inB b 0 100000000 = false))) := by
  rcases inB_cases a 0 100000000 with h1 | h1
  · rcases inB_cases b 0 100000000 with h2 | h2
    · exact Or.inl ⟨by rw [spnE, if_pos h1, if_pos h2], h1, h2⟩
    · exact Or.inr ⟨by rw [spnE, if_pos h1, if_neg (by rw [h2]; exact Bool.false_ne_true)], Or.inr ⟨h1, h2⟩⟩
  · exact Or.inr ⟨by rw [spnE, if_neg (by rw [h1]; exact Bool.false_ne_true)], Or.inl h1⟩
theorem span_is (a b r : Int) (w : World) (hr : Hid (spnE a b = r)) :
    Calls Try.prog 47 #[.agg #[.int .i64 a, .int .i64 b]] w fun e w' => e = .returned (.int .i64 r) ∧ Below w.heap.size w w' := by
  rw [← hr.out]; exact span_any a b w
theorem lodE_first {a b c d : Int} (h : spnE a b = 2) : lodE a b c d = 2 := by
  rcases spnE_cases a b with ⟨h0, _⟩ | ⟨_, h1 | ⟨h1, h2⟩⟩
  · rw [h] at h0; cases h0
  · exact lodE_1 h1
  · exact lodE_2 h1 h2
theorem lodE_second {a b c d : Int} (h : spnE a b = 0) (h' : spnE c d = 2) : lodE a b c d = 2 := by
  rcases spnE_cases a b with ⟨_, k1, k2⟩ | ⟨h0, _⟩
  · rcases spnE_cases c d with ⟨h0, _⟩ | ⟨_, h1 | ⟨h1, h2⟩⟩
    · rw [h'] at h0; cases h0
    · exact lodE_3 k1 k2 h1
    · exact lodE_4 k1 k2 h1 h2
  · rw [h] at h0; cases h0
theorem lodE_third {a b c d : Int} (h : spnE a b = 0) (h' : spnE c d = 0) : lodE a b c d = if b < a then 9 else if d < c then 9 else 0 := by
  rcases spnE_cases a b with ⟨_, k1, k2⟩ | ⟨h0, _⟩
  · rcases spnE_cases c d with ⟨_, k3, k4⟩ | ⟨h0, _⟩
    · by_cases h5 : b < a
      · rw [lodE_5 k1 k2 k3 k4 h5, if_pos h5]
      · by_cases h6 : d < c
        · rw [lodE_6 k1 k2 k3 k4 h5 h6, if_neg h5, if_pos h6]
        · rw [lodE_7 k1 k2 k3 k4 h5 h6, if_neg h5, if_neg h6]
    · rw [h'] at h0; cases h0
  · rw [h] at h0; cases h0
set_option maxRecDepth 100000 in
set_option maxHeartbeats 1000000 in
theorem refCheckLoad_any (a b c d : Int) (w : World) :
    Calls Try.prog 28 #[.agg #[.int .i64 a, .int .i64 b, .int .i64 c, .int .i64 d]] w fun e w' => e = .returned (.int .i64 (lodE a b c d)) ∧ Below w.heap.size w w' := by
  obtain ⟨E, hE⟩ : ∃ x, Hid (lodE a b c d = x) := ⟨_, rfl⟩
  rw [hE.out]
  rcases spnE_cases a b with ⟨h0, _⟩ | ⟨h0, _⟩
  · have H1 := Lib.hid h0
    rcases spnE_cases c d with ⟨h1, _⟩ | ⟨h1, _⟩
    · have H2 := Lib.hid h1
      have hF := lodE_third h0 h1
      rw [hE.out] at hF
      clear h0 h1 hE
      by_cases h5 : b < a
      · have hr : Hid (E = 9) := by show _ = _; rw [hF, if_pos h5]
        clear hF
        go_enter Try.func28, Try.ntmps28
        go_wp2_with fail
        refine (span_is _ _ _ _ H1).mono ?_
        rintro e w1 ⟨rfl, hb1⟩
        have k0 : w1.cell? ⟨w.heap.size, 0, none⟩ = some (.int .i64 a) := by rw [(bcell hb1).1 _ _ (by simp)]; simp [go_sem]
        have k1 : w1.cell? ⟨w.heap.size, 1, none⟩ = some (.int .i64 b) := by rw [(bcell hb1).1 _ _ (by simp)]; simp [go_sem]
        have k2 : w1.cell? ⟨w.heap.size, 2, none⟩ = some (.int .i64 c) := by rw [(bcell hb1).1 _ _ (by simp)]; simp [go_sem]
        have k3 : w1.cell? ⟨w.heap.size, 3, none⟩ = some (.int .i64 d) := by rw [(bcell hb1).1 _ _ (by simp)]; simp [go_sem]
        have hB1 : Below w.heap.size w w1 := (by (repeat (first | (with_reducible refine Below.drew ?_) | (with_reducible refine below_drewN ?_ _) | (with_reducible refine Below.alloc ?_ (by first | omega | (simp; done) | (simp; omega) | (simp at *; omega)) _) | (with_reducible refine Below.setCell ?_ (by first | omega | (simp; done) | (simp; omega) | (simp at *; omega)) _) | (with_reducible exact Below.refl _ _) | (with_reducible assumption) | (with_reducible refine Below.trans ?_ (Below.mono (by assumption) (by first | omega | (simp; done) | (simp; omega) | (simp at *; omega)))))))
        have l1 : w.heap.size < w1.heap.size := by have := hb1.size; simp at this; omega
        clear hb1
        go_wp2_with fail
        refine (span_is _ _ _ _ H2).mono ?_
        rintro e w2 ⟨rfl, hb2⟩
        replace k0 := (hb2.cell (p := ⟨w.heap.size, 0, none⟩) l1).trans k0
        replace k1 := (hb2.cell (p := ⟨w.heap.size, 1, none⟩) l1).trans k1
        replace k2 := (hb2.cell (p := ⟨w.heap.size, 2, none⟩) l1).trans k2
        replace k3 := (hb2.cell (p := ⟨w.heap.size, 3, none⟩) l1).trans k3
        have hB2 : Below w.heap.size w w2 := hB1.trans (hb2.mono hB1.size)
        clear hb2
        go_wp2
        go_ret
        exact ⟨ret_int hr.out.symm, hB2⟩
      · by_cases h6 : d < c
        · have hr : Hid (E = 9) := by show _ = _; rw [hF, if_neg h5, if_pos h6]
          clear hF
          go_enter Try.func28, Try.ntmps28
          go_wp2_with fail
          refine (span_is _ _ _ _ H1).mono ?_
          rintro e w1 ⟨rfl, hb1⟩
          have k0 : w1.cell? ⟨w.heap.size, 0, none⟩ = some (.int .i64 a) := by rw [(bcell hb1).1 _ _ (by simp)]; simp [go_sem]
          have k1 : w1.cell? ⟨w.heap.size, 1, none⟩ = some (.int .i64 b) := by rw [(bcell hb1).1 _ _ (by simp)]; simp [go_sem]
          have k2 : w1.cell? ⟨w.heap.size, 2, none⟩ = some (.int .i64 c) := by rw [(bcell hb1).1 _ _ (by simp)]; simp [go_sem]
          have k3 : w1.cell? ⟨w.heap.size, 3, none⟩ = some (.int .i64 d) := by rw [(bcell hb1).1 _ _ (by simp)]; simp [go_sem]
          have hB1 : Below w.heap.size w w1 := (by (repeat (first | (with_reducible refine Below.drew ?_) | (with_reducible refine below_drewN ?_ _) | (with_reducible refine Below.alloc ?_ (by first | omega | (simp; done) | (simp; omega) | (simp at *; omega)) _) | (with_reducible refine Below.setCell ?_ (by first | omega | (simp; done) | (simp; omega) | (simp at *; omega)) _) | (with_reducible exact Below.refl _ _) | (with_reducible assumption) | (with_reducible refine Below.trans ?_ (Below.mono (by assumption) (by first | omega | (simp; done) | (simp; omega) | (simp at *; omega)))))))
          have l1 : w.heap.size < w1.heap.size := by have := hb1.size; simp at this; omega
          clear hb1
          go_wp2_with fail
          refine (span_is _ _ _ _ H2).mono ?_
          rintro e w2 ⟨rfl, hb2⟩
          replace k0 := (hb2.cell (p := ⟨w.heap.size, 0, none⟩) l1).trans k0
          replace k1 := (hb2.cell (p := ⟨w.heap.size, 1, none⟩) l1).trans k1
          replace k2 := (hb2.cell (p := ⟨w.heap.size, 2, none⟩) l1).trans k2
          replace k3 := (hb2.cell (p := ⟨w.heap.size, 3, none⟩) l1).trans k3
          have hB2 : Below w.heap.size w w2 := hB1.trans (hb2.mono hB1.size)
          clear hb2
          go_wp2
          go_ret
          exact ⟨ret_int hr.out.symm, hB2⟩
        · have hr : Hid (E = 0) := by show _ = _; rw [hF, if_neg h5, if_neg h6]
          clear hF
          go_enter Try.func28, Try.ntmps28
          go_wp2_with fail
          refine (span_is _ _ _ _ H1).mono ?_
          rintro e w1 ⟨rfl, hb1⟩
          have k0 : w1.cell? ⟨w.heap.size, 0, none⟩ = some (.int .i64 a) := by rw [(bcell hb1).1 _ _ (by simp)]; simp [go_sem]
          have k1 : w1.cell? ⟨w.heap.size, 1, none⟩ = some (.int .i64 b) := by rw [(bcell hb1).1 _ _ (by simp)]; simp [go_sem]
          have k2 : w1.cell? ⟨w.heap.size, 2, none⟩ = some (.int .i64 c) := by rw [(bcell hb1).1 _ _ (by simp)]; simp [go_sem]
          have k3 : w1.cell? ⟨w.heap.size, 3, none⟩ = some (.int .i64 d) := by rw [(bcell hb1).1 _ _ (by simp)]; simp [go_sem]
          have hB1 : Below w.heap.size w w1 := (by (repeat (first | (with_reducible refine Below.drew ?_) | (with_reducible refine below_drewN ?_ _) | (with_reducible refine Below.alloc ?_ (by first | omega | (simp; done) | (simp; omega) | (simp at *; omega)) _) | (with_reducible refine Below.setCell ?_ (by first | omega | (simp; done) | (simp; omega) | (simp at *; omega)) _) | (with_reducible exact Below.refl _ _) | (with_reducible assumption) | (with_reducible refine Below.trans ?_ (Below.mono (by assumption) (by first | omega | (simp; done) | (simp; omega) | (simp at *; omega)))))))
          have l1 : w.heap.size < w1.heap.size := by have := hb1.size; simp at this; omega
          clear hb1
          go_wp2_with fail
          refine (span_is _ _ _ _ H2).mono ?_
          rintro e w2 ⟨rfl, hb2⟩
          replace k0 := (hb2.cell (p := ⟨w.heap.size, 0, none⟩) l1).trans k0
          replace k1 := (hb2.cell (p := ⟨w.heap.size, 1, none⟩) l1).trans k1
          replace k2 := (hb2.cell (p := ⟨w.heap.size, 2, none⟩) l1).trans k2
          replace k3 := (hb2.cell (p := ⟨w.heap.size, 3, none⟩) l1).trans k3
          have hB2 : Below w.heap.size w w2 := hB1.trans (hb2.mono hB1.size)
          clear hb2
          go_wp2
          go_ret
          exact ⟨ret_int hr.out.symm, hB2⟩
    · have H2 := Lib.hid h1
      have hr : Hid (E = 2) := by show _ = _; rw [← hE.out, lodE_second h0 h1]
      clear h0 h1 hE
      go_enter Try.func28, Try.ntmps28
      go_wp2_with fail
      refine (span_is _ _ _ _ H1).mono ?_
      rintro e w1 ⟨rfl, hb1⟩
      have k0 : w1.cell? ⟨w.heap.size, 0, none⟩ = some (.int .i64 a) := by rw [(bcell hb1).1 _ _ (by simp)]; simp [go_sem]
      have k1 : w1.cell? ⟨w.heap.size, 1, none⟩ = some (.int .i64 b) := by rw [(bcell hb1).1 _ _ (by simp)]; simp [go_sem]
      have k2 : w1.cell? ⟨w.heap.size, 2, none⟩ = some (.int .i64 c) := by rw [(bcell hb1).1 _ _ (by simp)]; simp [go_sem]
      have k3 : w1.cell? ⟨w.heap.size, 3, none⟩ = some (.int .i64 d) := by rw [(bcell hb1).1 _ _ (by simp)]; simp [go_sem]
      have hB1 : Below w.heap.size w w1 := (by (repeat (first | (with_reducible refine Below.drew ?_) | (with_reducible refine below_drewN ?_ _) | (with_reducible refine Below.alloc ?_ (by first | omega | (simp; done) | (simp; omega) | (simp at *; omega)) _) | (with_reducible refine Below.setCell ?_ (by first | omega | (simp; done) | (simp; omega) | (simp at *; omega)) _) | (with_reducible exact Below.refl _ _) | (with_reducible assumption) | (with_reducible refine Below.trans ?_ (Below.mono (by assumption) (by first | omega | (simp; done) | (simp; omega) | (simp at *; omega)))))))
      have l1 : w.heap.size < w1.heap.size := by have := hb1.size; simp at this; omega
      clear hb1
      go_wp2_with fail
      refine (span_is _ _ _ _ H2).mono ?_
      rintro e w2 ⟨rfl, hb2⟩
      replace k0 := (hb2.cell (p := ⟨w.heap.size, 0, none⟩) l1).trans k0
      replace k1 := (hb2.cell (p := ⟨w.heap.size, 1, none⟩) l1).trans k1
      replace k2 := (hb2.cell (p := ⟨w.heap.size, 2, none⟩) l1).trans k2
      replace k3 := (hb2.cell (p := ⟨w.heap.size, 3, none⟩) l1).trans k3
      have hB2 : Below w.heap.size w w2 := hB1.trans (hb2.mono hB1.size)
      clear hb2
      go_wp2
      go_ret
      exact ⟨ret_int hr.out.symm, hB2⟩
  · have H1 := Lib.hid h0
    have hr : Hid (E = 2) := by show _ = _; rw [← hE.out, lodE_first h0]
    clear h0 hE
    go_enter Try.func28, Try.ntmps28
    go_wp2_with ((go_at_call 47; ((with_reducible refine (span_is _ _ _ _ H1).mono ?_)); rintro e w1 ⟨rfl, hbw⟩; obtain ⟨hbc, hbf⟩ := bcell hbw; have hbs := hbw.size))
    go_ret
    exact ⟨ret_int hr.out.symm, (by (repeat (first | (with_reducible refine Below.drew ?_) | (with_reducible refine below_drewN ?_ _) | (with_reducible refine Below.alloc ?_ (by first | omega | (simp; done) | (simp; omega) | (simp at *; omega)) _) | (with_reducible refine Below.setCell ?_ (by first | omega | (simp; done) | (simp; omega) | (simp at *; omega)) _) | (with_reducible exact Below.refl _ _) | (with_reducible assumption) | (with_reducible refine Below.trans ?_ (Below.mono (by assumption) (by first | omega | (simp; done) | (simp; omega) | (simp at *; omega)))))))⟩
end Go.Proofs.Ytfaodlcfjhnhbaa

/- The specification's checks of compartments, tables and loads; the statements' small functions. -/
namespace Go.Proofs.Ytfaodlcfjhnhbaa
open Go.ChangeShapes Go.WideShapes Go.ChangeAt Go.RowKit
set_option linter.unusedVariables false
set_option linter.unusedSimpArgs false
attribute [local go_sem ↓] Go.wp_at_zero Go.wp_at_succ
theorem bWi (n a b : Int) (r : Bool) (w : World) (h : inB n a b = r) : Calls Try.prog 22 #[.int .i64 n, .int .i64 a, .int .i64 b] w fun e w' => e = .returned (.bool r) ∧ w = w' := by rw [← h]; exact baseWithin_any n a b w
theorem cmpE_at {n h b s : Int} (k1 : inB n 1 100000 = true) (k2 : inB h 1 100000 = true) (k3 : inB b 0 10000 = true) (k4 : inB s 1000 10000 = true) : cmpE n h b s = 0 := by rw [cmpE, rngE_t k1, rngE_t k2, rngE_t k3, rngE_t k4]; rfl
theorem cmpE_1 {n h b s : Int} (k1 : inB n 1 100000 = false) : cmpE n h b s = 2 := by rw [cmpE, rngE_f k1]; rfl
theorem cmpE_2 {n h b s : Int} (k1 : inB n 1 100000 = true) (k2 : inB h 1 100000 = false) : cmpE n h b s = 2 := by rw [cmpE, rngE_t k1, rngE_f k2]; rfl
theorem cmpE_3 {n h b s : Int} (k1 : inB n 1 100000 = true) (k2 : inB h 1 100000 = true) (k3 : inB b 0 10000 = false) : cmpE n h b s = 2 := by rw [cmpE, rngE_t k1, rngE_t k2, rngE_f k3]; rfl
theorem cmpE_4 {n h b s : Int} (k1 : inB n 1 100000 = true) (k2 : inB h 1 100000 = true) (k3 : inB b 0 10000 = true) (k4 : inB s 1000 10000 = false) : cmpE n h b s = 2 := by rw [cmpE, rngE_t k1, rngE_t k2, rngE_t k3, rngE_f k4]; rfl
set_option maxHeartbeats 1000000 in
theorem refCheckComp_is (n h b s r : Int) (w : World) (hr : Hid (cmpE n h b s = r)) :
    Calls Try.prog 31 #[.agg #[.int .i64 n, .int .i64 h, .int .i64 b, .int .i64 s]] w fun e w' => e = .returned (.int .i64 r) ∧ Below w.heap.size w w' := by
  rcases inB_cases n 1 100000 with k1 | k1
  · rcases inB_cases h 1 100000 with k2 | k2
    · rcases inB_cases b 0 10000 with k3 | k3
      · rcases inB_cases s 1000 10000 with k4 | k4
        · have H0 := Lib.hid (fun w => bWi n 1 100000 true w k1)
          have H1 := Lib.hid (fun w => bWi h 1 100000 true w k2)
          have H2 := Lib.hid (fun w => bWi b 0 10000 true w k3)
          have H3 := Lib.hid (fun w => bWi s 1000 10000 true w k4)
          have hv : Hid (r = 0) := by show _ = _; rw [← hr.out]; exact cmpE_at k1 k2 k3 k4
          clear k1 k2 k3 k4 hr
          go_enter Try.func31, Try.ntmps31
          go_wp2_with (first | (go_at_call 22; ((with_reducible refine (H0.out _).mono ?_)); rintro e w' ⟨rfl, rfl⟩) | (go_at_call 22; ((with_reducible refine (H1.out _).mono ?_)); rintro e w' ⟨rfl, rfl⟩) | (go_at_call 22; ((with_reducible refine (H2.out _).mono ?_)); rintro e w' ⟨rfl, rfl⟩) | (go_at_call 22; ((with_reducible refine (H3.out _).mono ?_)); rintro e w' ⟨rfl, rfl⟩))
          go_ret
          exact ⟨ret_int hv.out.symm, (by (repeat (first | (with_reducible refine Below.drew ?_) | (with_reducible refine below_drewN ?_ _) | (with_reducible refine Below.alloc ?_ (by first | omega | (simp; done) | (simp; omega) | (simp at *; omega)) _) | (with_reducible refine Below.setCell ?_ (by first | omega | (simp; done) | (simp; omega) | (simp at *; omega)) _) | (with_reducible exact Below.refl _ _) | (with_reducible assumption) | (with_reducible refine Below.trans ?_ (Below.mono (by assumption) (by first | omega | (simp; done) | (simp; omega) | (simp at *; omega)))))))⟩
        · have H0 := Lib.hid (fun w => bWi n 1 100000 true w k1)
          have H1 := Lib.hid (fun w => bWi h 1 100000 true w k2)
          have H2 := Lib.hid (fun w => bWi b 0 10000 true w k3)
          have H3 := Lib.hid (fun w => bWi s 1000 10000 false w k4)
          have hv : Hid (r = 2) := by show _ = _; rw [← hr.out]; exact cmpE_4 k1 k2 k3 k4
          clear k1 k2 k3 k4 hr
          go_enter Try.func31, Try.ntmps31
          go_wp2_with (first | (go_at_call 22; ((with_reducible refine (H0.out _).mono ?_)); rintro e w' ⟨rfl, rfl⟩) | (go_at_call 22; ((with_reducible refine (H1.out _).mono ?_)); rintro e w' ⟨rfl, rfl⟩) | (go_at_call 22; ((with_reducible refine (H2.out _).mono ?_)); rintro e w' ⟨rfl, rfl⟩) | (go_at_call 22; ((with_reducible refine (H3.out _).mono ?_)); rintro e w' ⟨rfl, rfl⟩))
          go_ret
          exact ⟨ret_int hv.out.symm, (by (repeat (first | (with_reducible refine Below.drew ?_) | (with_reducible refine below_drewN ?_ _) | (with_reducible refine Below.alloc ?_ (by first | omega | (simp; done) | (simp; omega) | (simp at *; omega)) _) | (with_reducible refine Below.setCell ?_ (by first | omega | (simp; done) | (simp; omega) | (simp at *; omega)) _) | (with_reducible exact Below.refl _ _) | (with_reducible assumption) | (with_reducible refine Below.trans ?_ (Below.mono (by assumption) (by first | omega | (simp; done) | (simp; omega) | (simp at *; omega)))))))⟩
      · have H0 := Lib.hid (fun w => bWi n 1 100000 true w k1)
        have H1 := Lib.hid (fun w => bWi h 1 100000 true w k2)
        have H2 := Lib.hid (fun w => bWi b 0 10000 false w k3)
        have hv : Hid (r = 2) := by show _ = _; rw [← hr.out]; exact cmpE_3 k1 k2 k3
        clear k1 k2 k3 hr
        go_enter Try.func31, Try.ntmps31
        go_wp2_with (first | (go_at_call 22; ((with_reducible refine (H0.out _).mono ?_)); rintro e w' ⟨rfl, rfl⟩) | (go_at_call 22; ((with_reducible refine (H1.out _).mono ?_)); rintro e w' ⟨rfl, rfl⟩) | (go_at_call 22; ((with_reducible refine (H2.out _).mono ?_)); rintro e w' ⟨rfl, rfl⟩))
        go_ret
        exact ⟨ret_int hv.out.symm, (by (repeat (first | (with_reducible refine Below.drew ?_) | (with_reducible refine below_drewN ?_ _) | (with_reducible refine Below.alloc ?_ (by first | omega | (simp; done) | (simp; omega) | (simp at *; omega)) _) | (with_reducible refine Below.setCell ?_ (by first | omega | (simp; done) | (simp; omega) | (simp at *; omega)) _) | (with_reducible exact Below.refl _ _) | (with_reducible assumption) | (with_reducible refine Below.trans ?_ (Below.mono (by assumption) (by first | omega | (simp; done) | (simp; omega) | (simp at *; omega)))))))⟩
    · have H0 := Lib.hid (fun w => bWi n 1 100000 true w k1)
      have H1 := Lib.hid (fun w => bWi h 1 100000 false w k2)
      have hv : Hid (r = 2) := by show _ = _; rw [← hr.out]; exact cmpE_2 k1 k2
      clear k1 k2 hr
      go_enter Try.func31, Try.ntmps31
      go_wp2_with (first | (go_at_call 22; ((with_reducible refine (H0.out _).mono ?_)); rintro e w' ⟨rfl, rfl⟩) | (go_at_call 22; ((with_reducible refine (H1.out _).mono ?_)); rintro e w' ⟨rfl, rfl⟩))
      go_ret
      exact ⟨ret_int hv.out.symm, (by (repeat (first | (with_reducible refine Below.drew ?_) | (with_reducible refine below_drewN ?_ _) | (with_reducible refine Below.alloc ?_ (by first | omega | (simp; done) | (simp; omega) | (simp at *; omega)) _) | (with_reducible refine Below.setCell ?_ (by first | omega | (simp; done) | (simp; omega) | (simp at *; omega)) _) | (with_reducible exact Below.refl _ _) | (with_reducible assumption) | (with_reducible refine Below.trans ?_ (Below.mono (by assumption) (by first | omega | (simp; done) | (simp; omega) | (simp at *; omega)))))))⟩
  · have H0 := Lib.hid (fun w => bWi n 1 100000 false w k1)
    have hv : Hid (r = 2) := by show _ = _; rw [← hr.out]; exact cmpE_1 k1
    clear k1 hr
    go_enter Try.func31, Try.ntmps31
    go_wp2_with (first | (go_at_call 22; ((with_reducible refine (H0.out _).mono ?_)); rintro e w' ⟨rfl, rfl⟩))
    go_ret
    exact ⟨ret_int hv.out.symm, (by (repeat (first | (with_reducible refine Below.drew ?_) | (with_reducible refine below_drewN ?_ _) | (with_reducible refine Below.alloc ?_ (by first | omega | (simp; done) | (simp; omega) | (simp at *; omega)) _) | (with_reducible refine Below.setCell ?_ (by first | omega | (simp; done) | (simp; omega) | (simp at *; omega)) _) | (with_reducible exact Below.refl _ _) | (with_reducible assumption) | (with_reducible refine Below.trans ?_ (Below.mono (by assumption) (by first | omega | (simp; done) | (simp; omega) | (simp at *; omega)))))))⟩
set_option maxHeartbeats 1000000 in
theorem refCheckTable_any (T : List Cm) (A : Option Addr) (cap : Nat) (w : World) (hl : T.length ≤ 9223372036854775807) (hT : SlCm w A T) :
    Calls Try.prog 13 #[.slice A T.length cap] w fun e w' => e = .returned (.int .i64 (tabE T)) ∧ Below w.heap.size w w' := by
  have HT := Lib.hid hT
  clear hT
  rcases inB_cases (T.length : Int) 1 16 with h1 | h1
  · have HW := Lib.hid (fun w => bWi (T.length : Int) 1 16 true w h1)
    obtain ⟨E, hE⟩ : ∃ x, Hid (fstE compE T = x) := ⟨_, rfl⟩
    have HE : tabE T = E := by rw [tabE, if_pos h1, hE.out]
    rw [HE]
    have l0 := (inB_iff.1 h1).2
    clear HE h1
    go_enter Try.func13, Try.ntmps13
    go_wp2_with ((go_at_call 22; ((with_reducible refine (HW.out _).mono ?_)); rintro e w' ⟨rfl, rfl⟩))
    go_loopw [3] (fun i wr => ∃ k : Nat, k ≤ T.length ∧ i = .int .i64 k ∧ Hid (∀ j, (hj : j < k) → (hj' : j < T.length) → compE T[j] = 0) ∧ Below w.heap.size w wr) (fun i _ => T.length - (intOf i).toNat)
    case atStart => exact ⟨0, by omega, rfl, fun j hj => by omega, (by (repeat (first | (with_reducible refine Below.drew ?_) | (with_reducible refine below_drewN ?_ _) | (with_reducible refine Below.alloc ?_ (by first | omega | (simp; done) | (simp; omega) | (simp at *; omega)) _) | (with_reducible refine Below.setCell ?_ (by first | omega | (simp; done) | (simp; omega) | (simp at *; omega)) _) | (with_reducible exact Below.refl _ _) | (with_reducible assumption) | (with_reducible refine Below.trans ?_ (Below.mono (by assumption) (by first | omega | (simp; done) | (simp; omega) | (simp at *; omega)))))))⟩
    case round =>
      obtain ⟨k, hk, rfl, hz, hB⟩ := hrel
      by_cases hkl : k < T.length
      · have hkl2 : (k : Int) < T.length := by omega
        rcases (HT.out.below hB : SlCm wr A T) with hnil | ⟨pb, po, hAA, plt, PL⟩
        · rw [hnil] at hkl; simp at hkl
        subst hAA
        obtain ⟨c0, c1, c2, c3⟩ := PL k hkl
        obtain ⟨r, hr⟩ : ∃ r, Hid (cmpE T[k].n T[k].h T[k].b T[k].s = r) := ⟨_, Lib.hid rfl⟩
        obtain ⟨p0, hp0⟩ : ∃ x, Hid (T[k].n = x) := ⟨T[k].n, Lib.hid rfl⟩
        obtain ⟨p1, hp1⟩ : ∃ x, Hid (T[k].h = x) := ⟨T[k].h, Lib.hid rfl⟩
        obtain ⟨p2, hp2⟩ : ∃ x, Hid (T[k].b = x) := ⟨T[k].b, Lib.hid rfl⟩
        obtain ⟨p3, hp3⟩ : ∃ x, Hid (T[k].s = x) := ⟨T[k].s, Lib.hid rfl⟩
        have hl9 : Hid (compE T[k] = r) := hr
        rw [hp0.out, hp1.out, hp2.out, hp3.out] at hr
        rw [hp0.out] at c0
        rw [hp1.out] at c1
        rw [hp2.out] at c2
        rw [hp3.out] at c3
        clear PL hp0 hp1 hp2 hp3
        go_wp2_with fail
        refine (refCheckComp_is p0 p1 p2 p3 r _ hr).mono ?_
        rintro e w9 ⟨rfl, hb9⟩
        have hB9 : Below w.heap.size w w9 := hB.trans (hb9.mono hB.size)
        clear hb9 hB c0 c1 c2 c3
        rcases ez2 r with ⟨hz0, hzb⟩ | ⟨hz0, hzb⟩
        · go_wp2
          go_roundw
          case rel =>
            refine ⟨k + 1, by omega, by go_num, ?_, hB9⟩
            exact fun j hj hj' => by
              by_cases e : j = k
              · subst e; rw [hl9.out, hz0.out]
              · exact hz.out j (by omega) hj'
          case measure => simp [intOf]; omega
        · have hv : Hid (E = r) := by show _ = _; rw [← hE.out, fstE_at hkl (fun j hj => hz.out j hj (by omega)) (by rw [hl9.out]; exact hz0.out), hl9.out]
          clear hz0
          go_wp2
          go_ret
          exact ⟨ret_int hv.out.symm, hB9⟩
      · have hkl2 : ¬ (k : Int) < T.length := by omega
        have hv : Hid (E = 0) := by show _ = _; rw [← hE.out]; exact fstE_z fun j hj => hz.out j (by omega) hj
        go_wp2
        go_ret
        exact ⟨ret_int hv.out.symm, hB⟩
  · have HW := Lib.hid (fun w => bWi (T.length : Int) 1 16 false w h1)
    have HE : tabE T = 10 := by rw [tabE, if_neg (by rw [h1]; exact Bool.false_ne_true)]
    rw [HE]
    clear HE h1
    go_enter Try.func13, Try.ntmps13
    go_wp2_with ((go_at_call 22; ((with_reducible refine (HW.out _).mono ?_)); rintro e w' ⟨rfl, rfl⟩))
    go_ret
    exact ⟨rfl, (by (repeat (first | (with_reducible refine Below.drew ?_) | (with_reducible refine below_drewN ?_ _) | (with_reducible refine Below.alloc ?_ (by first | omega | (simp; done) | (simp; omega) | (simp at *; omega)) _) | (with_reducible refine Below.setCell ?_ (by first | omega | (simp; done) | (simp; omega) | (simp at *; omega)) _) | (with_reducible exact Below.refl _ _) | (with_reducible assumption) | (with_reducible refine Below.trans ?_ (Below.mono (by assumption) (by first | omega | (simp; done) | (simp; omega) | (simp at *; omega)))))))⟩
theorem refCheckTable_is (T : List Cm) (A : Option Addr) (cap : Nat) (r : Int) (w : World) (hl : T.length ≤ 9223372036854775807) (hr : Hid (tabE T = r)) (hT : SlCm w A T) :
    Calls Try.prog 13 #[.slice A T.length cap] w fun e w' => e = .returned (.int .i64 r) ∧ Below w.heap.size w w' := by
  rw [← hr.out]; exact refCheckTable_any T A cap w hl hT
theorem refCheckLoad_iz (a b c d r : Int) (w : World) (hr : Hid (lodE a b c d = r)) :
    Calls Try.prog 28 #[.agg #[.int .i64 a, .int .i64 b, .int .i64 c, .int .i64 d]] w fun e w' => e = .returned (.int .i64 r) ∧ Below w.heap.size w w' := by
  rw [← hr.out]; exact refCheckLoad_any a b c d w
set_option maxHeartbeats 1000000 in
theorem refCheckLoads_any (T : List Cm) (L : List Ld) (A B : Option Addr) (cap cap' : Nat) (w : World) (hl : T.length ≤ 9223372036854775807) (hl' : L.length ≤ 9223372036854775807) (hT : SlCm w A T) (hL : SlLd w B L) :
    Calls Try.prog 10 #[.slice A T.length cap, .slice B L.length cap'] w fun e w' => e = .returned (.int .i64 (loadsE T L)) ∧ Below w.heap.size w w' := by
  have HT := Lib.hid hT
  have HL := Lib.hid hL
  clear hT hL
  obtain ⟨E, hE⟩ : ∃ x, Hid (loadsE T L = x) := ⟨_, rfl⟩
  rw [hE.out]
  obtain ⟨q, hq⟩ : ∃ x, Hid (tabE T = x) := ⟨_, rfl⟩
  rcases ez2 q with ⟨hz0, hzb⟩ | ⟨hz0, hzb⟩
  · by_cases hle : L.length = T.length
    · have hb : ((L.length : Int) != (T.length : Int)) = false := neI_f (by omega)
      have HF : Hid (E = fstE loadE L) := by show _ = _; rw [← hE.out, loadsE, if_pos (by rw [hq.out]; exact hz0.out), if_pos hle]
      have h16 : L.length ≤ 16 := by
        have h0 : tabE T = 0 := by rw [hq.out]; exact hz0.out
        rcases inB_cases (T.length : Int) 1 16 with h1 | h1
        · have := (inB_iff.1 h1).2; omega
        · rw [tabE, if_neg (by rw [h1]; exact Bool.false_ne_true)] at h0; cases h0
      clear hle hE
      have hz1 := hz0.out
      subst hz1
      go_enter Try.func10, Try.ntmps10
      go_wp2_with fail
      refine (refCheckTable_is T A cap 0 _ hl hq HT.out).mono ?_
      rintro e w1 ⟨rfl, hB1⟩
      go_wp2
      go_loopw [6] (fun i wr => ∃ k : Nat, k ≤ L.length ∧ i = .int .i64 k ∧ Hid (∀ j, (hj : j < k) → (hj' : j < L.length) → loadE L[j] = 0) ∧ Below w.heap.size w wr) (fun i _ => L.length - (intOf i).toNat)
      case atStart => exact ⟨0, by omega, rfl, fun j hj => by omega, by first | assumption | (repeat (first | (with_reducible refine Below.drew ?_) | (with_reducible refine below_drewN ?_ _) | (with_reducible refine Below.alloc ?_ (by first | omega | (simp; done) | (simp; omega) | (simp at *; omega)) _) | (with_reducible refine Below.setCell ?_ (by first | omega | (simp; done) | (simp; omega) | (simp at *; omega)) _) | (with_reducible exact Below.refl _ _) | (with_reducible assumption) | (with_reducible refine Below.trans ?_ (Below.mono (by assumption) (by first | omega | (simp; done) | (simp; omega) | (simp at *; omega))))))⟩
      case round =>
        obtain ⟨k, hk, rfl, hz, hB⟩ := hrel
        by_cases hkl : k < L.length
        · have hkl2 : (k : Int) < L.length := by omega
          rcases (HL.out.below hB : SlLd wr B L) with hnil | ⟨pb, po, hAA, plt, PL⟩
          · rw [hnil] at hkl; simp at hkl
          subst hAA
          obtain ⟨c0, c1, c2, c3⟩ := PL k hkl
          obtain ⟨r, hr⟩ : ∃ r, Hid (lodE L[k].a L[k].b L[k].c L[k].d = r) := ⟨_, Lib.hid rfl⟩
          obtain ⟨p0, hp0⟩ : ∃ x, Hid (L[k].a = x) := ⟨L[k].a, Lib.hid rfl⟩
          obtain ⟨p1, hp1⟩ : ∃ x, Hid (L[k].b = x) := ⟨L[k].b, Lib.hid rfl⟩
          obtain ⟨p2, hp2⟩ : ∃ x, Hid (L[k].c = x) := ⟨L[k].c, Lib.hid rfl⟩
          obtain ⟨p3, hp3⟩ : ∃ x, Hid (L[k].d = x) := ⟨L[k].d, Lib.hid rfl⟩
          have hl9 : Hid (loadE L[k] = r) := hr
          rw [hp0.out, hp1.out, hp2.out, hp3.out] at hr
          rw [hp0.out] at c0
          rw [hp1.out] at c1
          rw [hp2.out] at c2
          rw [hp3.out] at c3
          clear PL hp0 hp1 hp2 hp3
          go_wp2_with fail
          refine (refCheckLoad_iz p0 p1 p2 p3 r _ hr).mono ?_
          rintro e w9 ⟨rfl, hb9⟩
          have hB9 : Below w.heap.size w w9 := hB.trans (hb9.mono hB.size)
          clear hb9 hB c0 c1 c2 c3
          rcases ez2 r with ⟨hz0', hzb'⟩ | ⟨hz0', hzb'⟩
          · go_wp2
            go_roundw
            case rel =>
              refine ⟨k + 1, by omega, by go_num, ?_, hB9⟩
              exact fun j hj hj' => by
                by_cases e : j = k
                · subst e; rw [hl9.out, hz0'.out]
                · exact hz.out j (by omega) hj'
            case measure => simp [intOf]; omega
          · have hv : Hid (E = r) := by show _ = _; rw [HF.out, fstE_at hkl (fun j hj => hz.out j hj (by omega)) (by rw [hl9.out]; exact hz0'.out), hl9.out]
            clear hz0'
            go_wp2
            go_ret
            exact ⟨ret_int hv.out.symm, hB9⟩
        · have hkl2 : ¬ (k : Int) < L.length := by omega
          have hv : Hid (E = 0) := by show _ = _; rw [HF.out]; exact fstE_z fun j hj => hz.out j (by omega) hj
          go_wp2
          go_ret
          exact ⟨ret_int hv.out.symm, hB⟩
    · have hb : ((L.length : Int) != (T.length : Int)) = true := neI_t (by omega)
      have HF : Hid (E = 10) := by show _ = _; rw [← hE.out, loadsE, if_pos (by rw [hq.out]; exact hz0.out), if_neg hle]
      clear hle hE
      have hz1 := hz0.out
      subst hz1
      go_enter Try.func10, Try.ntmps10
      go_wp2_with fail
      refine (refCheckTable_is T A cap 0 _ hl hq HT.out).mono ?_
      rintro e w1 ⟨rfl, hB1⟩
      go_wp2
      go_ret
      exact ⟨ret_int HF.out.symm, hB1⟩
  · have HF : Hid (E = q) := by show _ = _; rw [← hE.out, loadsE, if_neg (by rw [hq.out]; exact hz0.out), hq.out]
    clear hE hz0
    go_enter Try.func10, Try.ntmps10
    go_wp2_with fail
    refine (refCheckTable_is T A cap q _ hl hq HT.out).mono ?_
    rintro e w1 ⟨rfl, hB1⟩
    go_wp2
    go_ret
    exact ⟨ret_int HF.out.symm, hB1⟩
theorem refCheckLoads_is (T : List Cm) (L : List Ld) (A B : Option Addr) (cap cap' : Nat) (r : Int) (w : World) (hl : T.length ≤ 9223372036854775807) (hl' : L.length ≤ 9223372036854775807) (hr : Hid (loadsE T L = r)) (hT : SlCm w A T) (hL : SlLd w B L) :
    Calls Try.prog 10 #[.slice A T.length cap, .slice B L.length cap'] w fun e w' => e = .returned (.int .i64 r) ∧ Below w.heap.size w w' := by
  rw [← hr.out]; exact refCheckLoads_any T L A B cap cap' w hl hl' hT hL
theorem isPressure_is (n : Int) (r : Bool) (w : World) (h : Hid (inB n 400 31100 = r)) : Calls Try.prog 32 #[.int .i64 n] w fun e w' => e = .returned (.bool r) ∧ w = w' := by
  have HW := Lib.hid (fun w => bWi n 400 31100 r w h.out)
  go_enter Try.func32, Try.ntmps32
  go_wp2_with ((go_at_call 22; ((with_reducible refine (HW.out _).mono ?_)); rintro e w' ⟨rfl, rfl⟩))
  go_ret
  exact ⟨rfl, rfl⟩
theorem isFactor_is (n : Int) (r : Bool) (w : World) (h : Hid (inB n 0 1000 = r)) : Calls Try.prog 21 #[.int .i64 n] w fun e w' => e = .returned (.bool r) ∧ w = w' := by
  have HW := Lib.hid (fun w => bWi n 0 1000 r w h.out)
  go_enter Try.func21, Try.ntmps21
  go_wp2_with ((go_at_call 22; ((with_reducible refine (HW.out _).mono ?_)); rintro e w' ⟨rfl, rfl⟩))
  go_ret
  exact ⟨rfl, rfl⟩
/-- Whether a table has at most 4 compartments, or too many. -/
def fewB (n : Nat) : Bool := decide (n ≤ 4) || (decide (16 < n) && decide (n ≤ 18))
end Go.Proofs.Ytfaodlcfjhnhbaa
