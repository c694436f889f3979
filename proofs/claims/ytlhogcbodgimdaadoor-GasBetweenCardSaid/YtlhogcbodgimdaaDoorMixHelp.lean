/- The calls on lists of parts, each with what it returns under a name. -/
import Derived.Test.YtlhogcbodgimdaaDoorRefMix
import Derived.Outline
namespace Go.Proofs.YtlhogcbodgimdaaDoor
open Go.ChangeShapes Go.WideShapes Go.ChangeAt Go.RowKit
set_option linter.unusedVariables false
set_option linter.unusedSimpArgs false

theorem oldCellM {w w' : World} {b o : Nat} {v : Value} (hb : Below w.heap.size w w') (h : w.cell? ⟨b, o, none⟩ = some v) : w'.cell? ⟨b, o, none⟩ = some v :=
  (hb.cell (p := ⟨b, o, none⟩) (by have := World.block_lt_of_cell? _ _ h; simpa using this)).trans h
theorem short_any (A : Option Addr) (k cap : Nat) (w : World) (x : Bool) (hx : Hid (decide (k ≤ 15) = x)) (hk : k ≤ 9223372036854775807) :
    Calls Tryd.prog 6 #[.slice A k cap] w fun e w' => e = .returned (.bool x) ∧ w = w' := by
  go_enter Tryd.func6, Tryd.ntmps6
  go_wp2
  go_ret
  exact ⟨ret_bool (by rw [← hx.out]; first | rfl | (simp; done) | (simp; omega)), rfl⟩
theorem Mixed_is (P : List Part) (b cap : Nat) (r0 r1 r2 r3 r4 r5 E : Int) (w : World) (hl : P.length ≤ 1000) (hlt : b < w.heap.size) (hP : PartsAt w b 0 P) (h0 : Hid (mixR P 0 = r0)) (h1 : Hid (mixR P 1 = r1)) (h2 : Hid (mixR P 2 = r2)) (h3 : Hid (mixR P 3 = r3)) (h4 : Hid (mixR P 4 = r4)) (h5 : Hid (mixR P 5 = r5)) (hE : Hid (mixE P = E)) :
    Calls Tryd.prog 8 #[.slice (some ⟨b, 0, none⟩) P.length cap] w fun e w' => e = .returned (.tuple #[.agg #[.int .i64 r0, .int .i64 r1, .int .i64 r2, .int .i64 r3, .int .i64 r4, .int .i64 r5], .int .i64 E]) ∧ Below w.heap.size w w' := by
  have := Mixed_any P b 0 cap w hl hlt hP
  rw [h0.out, h1.out, h2.out, h3.out, h4.out, h5.out, hE.out] at this
  exact this
theorem Nearest_is (P : List Part) (b cap : Nat) (g0 g1 c : Int) (w : World) (hl : P.length ≤ 1000) (hlt : b < w.heap.size) (hP : PartsAt w b 0 P) (h0 : Hid (nearR P 0 = g0)) (h1 : Hid (nearR P 1 = g1)) (hc : Hid (checkPartsE P = c)) :
    Calls Tryd.prog 17 #[.slice (some ⟨b, 0, none⟩) P.length cap] w fun e w' => e = .returned (.tuple #[.agg #[.int .i64 g0, .int .i64 g1], .int .i64 c]) ∧ Below w.heap.size w w' := by
  have := Nearest_any P b 0 cap w hl hlt hP
  rw [h0.out, h1.out, hc.out] at this
  exact this
theorem refNearest_is (P : List Part) (A : Option Addr) (cap : Nat) (g0 g1 : Int) (w : World) (hS : PSl w A P) (hc : checkPartsE P = 0) (h0 : Hid (nearO P = g0)) (h1 : Hid (nearH P = g1)) :
    Calls Tryd.prog 16 #[.slice A P.length cap] w fun e w' => e = .returned (.agg #[.int .i64 g0, .int .i64 g1]) ∧ Below w.heap.size w w' := by
  rcases hS with rfl | ⟨b, off, rfl, hlt, hP⟩
  · exact absurd hc (by decide)
  · obtain ⟨hl, hR, hn⟩ := checkPartsE_z hc
    have := refNearest_any P b off cap w hl hlt hP hR hn
    rw [h0.out, h1.out] at this
    exact this
theorem refCheckParts_is (P : List Part) (A : Option Addr) (cap : Nat) (c : Int) (w : World) (hl : P.length ≤ 1000) (hS : PSl w A P) (hc : Hid (checkPartsE P = c)) :
    Calls Tryd.prog 7 #[.slice A P.length cap] w fun e w' => e = .returned (.int .i64 c) ∧ Below w.heap.size w w' := by
  have := refCheckParts_any P A cap w hl hS
  rw [hc.out] at this
  exact this
theorem CheckParts_is (P : List Part) (b cap : Nat) (c : Int) (w : World) (hl : P.length ≤ 1000) (hlt : b < w.heap.size) (hP : PartsAt w b 0 P) (hc : Hid (checkPartsE P = c)) :
    Calls Tryd.prog 25 #[.slice (some ⟨b, 0, none⟩) P.length cap] w fun e w' => e = .returned (.int .i64 c) ∧ Below w.heap.size w w' := by
  have := CheckParts_any P b 0 cap w hl hlt hP
  rw [hc.out] at this
  exact this
theorem CheckGas_m (o h c : Int) (w : World) (hc : Hid (gasE o h = c)) :
    Calls Tryd.prog 31 #[.agg #[.int .i64 o, .int .i64 h]] w fun e w' => e = .returned (.int .i64 c) ∧ w.alloc (.cells #[.int .i64 o, .int .i64 h] 35) = w' := by
  have := CheckGas_any o h w
  rw [hc.out] at this
  exact this
theorem gasE_ok {o h : Int} (h1 : 0 ≤ o) (h2 : o ≤ 1000) (h3 : 0 ≤ h) (h4 : h ≤ 1000) (h5 : o + h ≤ 1000) : gasE o h = 0 := by
  unfold gasE
  rw [inB_true h1 h2, inB_true h3 h4, if_pos ⟨rfl, rfl⟩, if_pos h5]
theorem near_ok {P : List Part} (hc : checkPartsE P = 0) : gasE (nearO P) (nearH P) = 0 := by
  obtain ⟨hl, hR, hn⟩ := checkPartsE_z hc
  have A0 := sumA_pos hR hn
  have A1 := (sumA_bd hl hR).2
  have X0 : 0 ≤ sumF pO P := (prt_bd hl hR 0).1
  have Y0 : 0 ≤ sumF pH P := (prt_bd hl hR 1).1
  have X1 : sumF pO P ≤ 1000 * sumF pA P := prt_le hl hR 0
  have x0 := (rndQ_bd X0 (prt_bd hl hR 0).2 A0 A1).1
  have y0 := (rndQ_bd Y0 (prt_bd hl hR 1).2 A0 A1).1
  have x1 : rndQ (sumF pO P) (sumF pA P) ≤ 1000 := by
    unfold rndQ
    refine Int.le_of_lt_add_one ((Int.ediv_lt_iff_lt_mul (by omega)).2 ?_)
    omega
  have hO : nearO P = rndQ (sumF pO P) (sumF pA P) := rfl
  have h1 : 0 ≤ nearH P ∧ nearO P + nearH P ≤ 1000 := by
    unfold nearH
    rw [hO]
    split <;> omega
  exact gasE_ok (by omega) (by omega) h1.1 (by omega) h1.2
end Go.Proofs.YtlhogcbodgimdaaDoor
