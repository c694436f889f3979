/- The examples of the document are so: shotlinelaw01.awake returns true. -/
import Derived.Test.YtpagbkbaphjmdaaDoorText
import Derived.Test.YtpagbkbaphjmdaaDoorBest
import Derived.Test.YtpagbkbaphjmdaaDoorMixed
import Derived.Outline
namespace Go.Proofs.YtpagbkbaphjmdaaDoor
open Go.ChangeShapes Go.WideShapes Go.ChangeAt Go.RowKit
set_option linter.unusedVariables false

theorem DepthsFor_ex (w : World) :
    Calls Tryd.prog 13 #[.agg #[.int .i64 320, .int .i64 0], .int .i64 1000, .agg #[.int .i64 160, .int .i64 1400]] w fun e w' => e = .returned (.tuple #[.agg #[.int .i64 0, .int .i64 3375], .int .i64 0]) ∧ Below w.heap.size w w' := by
  have h := DepthsFor_any 320 0 1000 160 1400 w
  rw [show depE 320 0 1000 160 1400 = 0 by decide, show depL 320 0 1000 160 1400 = 0 by decide, show depH 320 0 1000 160 1400 = 3375 by decide] at h
  exact h
theorem BestGas_ex (w : World) :
    Calls Tryd.prog 14 #[.agg #[.int .i64 1000, .int .i64 6000, .int .i64 160, .int .i64 1400, .int .i64 3000]] w fun e w' => e = .returned (.tuple #[.agg #[.int .i64 200, .int .i64 429], .int .i64 0]) ∧ Below w.heap.size w w' := by
  have h := BestGas_any 1000 6000 160 1400 3000 w
  rw [show bestE 1000 6000 160 1400 3000 = 0 by decide, show bestO 1000 6000 160 1400 3000 = 200 by decide, show bestH 1000 6000 160 1400 3000 = 429 by decide] at h
  exact h
def exP : List Part := [⟨1000, 0, 1000⟩, ⟨210, 0, 3000⟩]
theorem Mixed_ex (b : Nat) (w : World) (hlt : b < w.heap.size) (h0 : w.cell? ⟨b, 0, none⟩ = some (.int .i64 1000)) (h1 : w.cell? ⟨b, 1, none⟩ = some (.int .i64 0)) (h2 : w.cell? ⟨b, 2, none⟩ = some (.int .i64 1000)) (h3 : w.cell? ⟨b, 3, none⟩ = some (.int .i64 210)) (h4 : w.cell? ⟨b, 4, none⟩ = some (.int .i64 0)) (h5 : w.cell? ⟨b, 5, none⟩ = some (.int .i64 3000)) :
    Calls Tryd.prog 15 #[.slice (some ⟨b, 0, none⟩) 2 2] w fun e w' => e = .returned (.tuple #[.agg #[.int .i64 163, .int .i64 400, .int .i64 0, .int .i64 1, .int .i64 237, .int .i64 400], .int .i64 0]) ∧ Below w.heap.size w w' := by
  have hP : PartsAt w b 0 exP := by
    intro k hk
    have hk2 : k = 0 ∨ k = 1 := by simp [exP] at hk; omega
    rcases hk2 with rfl | rfl
    · exact ⟨h0, h1, h2⟩
    · exact ⟨h3, h4, h5⟩
  have h := Mixed_any exP b 0 2 w (by decide) hlt hP
  rw [show mixE exP = 0 by decide +kernel, show mixR exP 0 = 163 by decide +kernel, show mixR exP 1 = 400 by decide +kernel, show mixR exP 2 = 0 by decide +kernel, show mixR exP 3 = 1 by decide +kernel, show mixR exP 4 = 237 by decide +kernel, show mixR exP 5 = 400 by decide +kernel] at h
  exact h
set_option maxRecDepth 100000 in
set_option maxHeartbeats 2000000 in
theorem awake_any (w : World) (m : Int) (hm : w.cell? ⟨1, 0, none⟩ = some (.int .i64 m)) :
    Calls Tryd.prog 4 #[] w fun e w' => e = .returned (.bool true) ∧ Below w.heap.size w w' := by
  go_enter Tryd.func4, Tryd.ntmps4
  go_wp2_with ((go_at_call 7; ((with_reducible refine (Parse_tx _ m hm).mono ?_)); rintro e w1 ⟨rfl, hbw1⟩; obtain ⟨hbc1, hbf1⟩ := bcell hbw1; have hbs1 := hbw1.size))
  clear hbc1 hbf1
  go_wp2_with ((go_at_call 13; ((with_reducible refine (DepthsFor_ex _).mono ?_)); rintro e w2 ⟨rfl, hbw2⟩; obtain ⟨hbc2, hbf2⟩ := bcell hbw2; have hbs2 := hbw2.size))
  have hB2 : Below w.heap.size w w2 := (by (repeat (first | (with_reducible refine Below.drew ?_) | (with_reducible refine below_drewN ?_ _) | (with_reducible refine Below.alloc ?_ (by first | omega | (simp; done) | (simp; omega) | (simp at *; omega)) _) | (with_reducible refine Below.setCell ?_ (by first | omega | (simp; done) | (simp; omega) | (simp at *; omega)) _) | (with_reducible exact Below.refl _ _) | (with_reducible assumption) | (with_reducible refine Below.trans ?_ (Below.mono (by assumption) (by first | omega | (simp; done) | (simp; omega) | (simp at *; omega)))))))
  simp at hbs2
  have g0 : w2.cell? ⟨w1.heap.size, 0, none⟩ = some (.int .i64 180) := by rw [hbc2 _ _ (by simp)]; simp [go_sem]
  have g1 : w2.cell? ⟨w1.heap.size, 1, none⟩ = some (.int .i64 450) := by rw [hbc2 _ _ (by simp)]; simp [go_sem]
  clear hbc2 hbf2 hbw2
  have n1 : w2.heap.size ≠ w1.heap.size := by omega
  have n2 : w1.heap.size < w2.heap.size := by omega
  go_wp2_with ((go_at_call 14; ((with_reducible refine (BestGas_ex _).mono ?_)); rintro e w3 ⟨rfl, hbw3⟩; obtain ⟨hbc3, hbf3⟩ := bcell hbw3; have hbs3 := hbw3.size))
  have hB3 : Below w.heap.size w w3 := (by (repeat (first | (with_reducible refine Below.drew ?_) | (with_reducible refine below_drewN ?_ _) | (with_reducible refine Below.alloc ?_ (by first | omega | (simp; done) | (simp; omega) | (simp at *; omega)) _) | (with_reducible refine Below.setCell ?_ (by first | omega | (simp; done) | (simp; omega) | (simp at *; omega)) _) | (with_reducible exact Below.refl _ _) | (with_reducible assumption) | (with_reducible refine Below.trans ?_ (Below.mono (by assumption) (by first | omega | (simp; done) | (simp; omega) | (simp at *; omega)))))))
  simp at hbs3
  have a0 : w3.cell? ⟨w1.heap.size, 0, none⟩ = some (.int .i64 180) := by rw [hbc3 _ _ (by simp; omega)]; simp [go_sem, World.cell?_alloc_past, *]
  have a1 : w3.cell? ⟨w1.heap.size, 1, none⟩ = some (.int .i64 450) := by rw [hbc3 _ _ (by simp; omega)]; simp [go_sem, World.cell?_alloc_past, *]
  have a2 : w3.cell? ⟨w2.heap.size, 0, none⟩ = some (.int .i64 0) := by rw [hbc3 _ _ (by simp)]; simp [go_sem]
  have a3 : w3.cell? ⟨w2.heap.size, 1, none⟩ = some (.int .i64 3375) := by rw [hbc3 _ _ (by simp)]; simp [go_sem]
  clear hbc3 hbf3 hbw3 g0 g1
  have n3 : w3.heap.size ≠ w2.heap.size := by omega
  have n4 : w3.heap.size ≠ w1.heap.size := by omega
  have n5 : w2.heap.size < w3.heap.size := by omega
  have n6 : w1.heap.size < w3.heap.size := by omega
  have n7 : w2.heap.size < w3.heap.size + 1 := by omega
  have n8 : w1.heap.size < w3.heap.size + 1 := by omega
  go_wp2_with fail
  refine (Mixed_ex _ _ (by simp) (by simp [go_sem]) (by simp [go_sem]) (by simp [go_sem]) (by simp [go_sem]) (by simp [go_sem]) (by simp [go_sem])).mono ?_
  rintro e w4 ⟨rfl, hbw4⟩
  obtain ⟨hbc4, hbf4⟩ := bcell hbw4
  have hbs4 := hbw4.size
  have hB4 : Below w.heap.size w w4 := (by (repeat (first | (with_reducible refine Below.drew ?_) | (with_reducible refine below_drewN ?_ _) | (with_reducible refine Below.alloc ?_ (by first | omega | (simp; done) | (simp; omega) | (simp at *; omega)) _) | (with_reducible refine Below.setCell ?_ (by first | omega | (simp; done) | (simp; omega) | (simp at *; omega)) _) | (with_reducible exact Below.refl _ _) | (with_reducible assumption) | (with_reducible refine Below.trans ?_ (Below.mono (by assumption) (by first | omega | (simp; done) | (simp; omega) | (simp at *; omega)))))))
  simp at hbs4
  have e0 : w4.cell? ⟨w1.heap.size, 0, none⟩ = some (.int .i64 180) := by rw [hbc4 _ _ (by simp; omega)]; simp [go_sem, World.cell?_alloc_past, *]
  have e1 : w4.cell? ⟨w1.heap.size, 1, none⟩ = some (.int .i64 450) := by rw [hbc4 _ _ (by simp; omega)]; simp [go_sem, World.cell?_alloc_past, *]
  have e2 : w4.cell? ⟨w2.heap.size, 0, none⟩ = some (.int .i64 0) := by rw [hbc4 _ _ (by simp; omega)]; simp [go_sem, World.cell?_alloc_past, *]
  have e3 : w4.cell? ⟨w2.heap.size, 1, none⟩ = some (.int .i64 3375) := by rw [hbc4 _ _ (by simp; omega)]; simp [go_sem, World.cell?_alloc_past, *]
  have e4 : w4.cell? ⟨w3.heap.size, 0, none⟩ = some (.int .i64 200) := by rw [hbc4 _ _ (by simp; omega)]; simp [go_sem, World.cell?_alloc_past, *]
  have e5 : w4.cell? ⟨w3.heap.size, 1, none⟩ = some (.int .i64 429) := by rw [hbc4 _ _ (by simp; omega)]; simp [go_sem, World.cell?_alloc_past, *]
  clear hbc4 hbf4 hbw4 a0 a1 a2 a3
  have p1 : w4.heap.size ≠ w1.heap.size := by omega
  have p2 : w4.heap.size ≠ w2.heap.size := by omega
  have p3 : w4.heap.size ≠ w3.heap.size := by omega
  have p4 : w1.heap.size < w4.heap.size := by omega
  have p5 : w2.heap.size < w4.heap.size := by omega
  have p6 : w3.heap.size < w4.heap.size := by omega
  have r0 : (w4.alloc (.cells #[.int .i64 163, .int .i64 400, .int .i64 0, .int .i64 1, .int .i64 237, .int .i64 400] 49)).cell? ⟨w1.heap.size, 0, none⟩ = some (.int .i64 180) := (((Below.refl w4.heap.size w4).alloc (Nat.le_refl _) _).cell (p := ⟨w1.heap.size, 0, none⟩) (by show w1.heap.size < w4.heap.size; omega)).trans e0
  have r1 : (w4.alloc (.cells #[.int .i64 163, .int .i64 400, .int .i64 0, .int .i64 1, .int .i64 237, .int .i64 400] 49)).cell? ⟨w1.heap.size, 1, none⟩ = some (.int .i64 450) := (((Below.refl w4.heap.size w4).alloc (Nat.le_refl _) _).cell (p := ⟨w1.heap.size, 1, none⟩) (by show w1.heap.size < w4.heap.size; omega)).trans e1
  have r2 : (w4.alloc (.cells #[.int .i64 163, .int .i64 400, .int .i64 0, .int .i64 1, .int .i64 237, .int .i64 400] 49)).cell? ⟨w2.heap.size, 0, none⟩ = some (.int .i64 0) := (((Below.refl w4.heap.size w4).alloc (Nat.le_refl _) _).cell (p := ⟨w2.heap.size, 0, none⟩) (by show w2.heap.size < w4.heap.size; omega)).trans e2
  have r3 : (w4.alloc (.cells #[.int .i64 163, .int .i64 400, .int .i64 0, .int .i64 1, .int .i64 237, .int .i64 400] 49)).cell? ⟨w2.heap.size, 1, none⟩ = some (.int .i64 3375) := (((Below.refl w4.heap.size w4).alloc (Nat.le_refl _) _).cell (p := ⟨w2.heap.size, 1, none⟩) (by show w2.heap.size < w4.heap.size; omega)).trans e3
  have r4 : (w4.alloc (.cells #[.int .i64 163, .int .i64 400, .int .i64 0, .int .i64 1, .int .i64 237, .int .i64 400] 49)).cell? ⟨w3.heap.size, 0, none⟩ = some (.int .i64 200) := (((Below.refl w4.heap.size w4).alloc (Nat.le_refl _) _).cell (p := ⟨w3.heap.size, 0, none⟩) (by show w3.heap.size < w4.heap.size; omega)).trans e4
  have r5 : (w4.alloc (.cells #[.int .i64 163, .int .i64 400, .int .i64 0, .int .i64 1, .int .i64 237, .int .i64 400] 49)).cell? ⟨w3.heap.size, 1, none⟩ = some (.int .i64 429) := (((Below.refl w4.heap.size w4).alloc (Nat.le_refl _) _).cell (p := ⟨w3.heap.size, 1, none⟩) (by show w3.heap.size < w4.heap.size; omega)).trans e5
  clear n1 n2 n3 n4 n5 n6 n7 n8 hbs1 hbs2 hbs3
  go_wp2
  go_ret
  exact ⟨by rfl, hB4.alloc hB4.size _⟩
end Go.Proofs.YtpagbkbaphjmdaaDoor
