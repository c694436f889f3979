import Derived.Test.YtojaompfffpofaaGreatZOSRefWn
import Derived.Test.YtojaompfffpofaaGreatZOSSlw
import Derived.Outline
namespace Go.Proofs.YtojaompfffpofaaGreat
open Go.ChangeShapes Go.WideShapes Go.ChangeAt Go.RowKit
set_option linter.unusedVariables false
set_option linter.unusedSimpArgs false
attribute [local go_sem ↓] Go.wp_at_zero Go.wp_at_succ
structure AskS (m : Int) (A : Option Addr) (n cap : Nat) (l a b : Int) (s : Bool) (w X : World) : Prop where
  t0 : X.cell? ⟨w.heap.size, 0, none⟩ = some (.int .i64 m)
  t1 : X.cell? ⟨w.heap.size, 1, none⟩ = some (.slice A n cap)
  c0 : X.cell? ⟨w.heap.size + 1, 0, none⟩ = some (.int .i64 l)
  c1 : X.cell? ⟨w.heap.size + 1, 1, none⟩ = some (.int .i64 a)
  c2 : X.cell? ⟨w.heap.size + 1, 2, none⟩ = some (.int .i64 b)
  c3 : X.cell? ⟨w.heap.size + 1, 3, none⟩ = some (.bool s)
  be : Below w.heap.size w X
  lt : w.heap.size + 1 < X.heap.size
theorem AskS.below {m : Int} {A : Option Addr} {n cap : Nat} {l a b : Int} {s : Bool} {w X X' : World} (h : AskS m A n cap l a b s w X) (hb : Below X.heap.size X X') : AskS m A n cap l a b s w X' := by
  have z := hb.size
  have l' := h.lt
  have l0 : w.heap.size < X.heap.size := by omega
  exact ⟨(hb.cell (p := ⟨w.heap.size, 0, none⟩) l0).trans h.t0, (hb.cell (p := ⟨w.heap.size, 1, none⟩) l0).trans h.t1, (hb.cell (p := ⟨w.heap.size + 1, 0, none⟩) l').trans h.c0, (hb.cell (p := ⟨w.heap.size + 1, 1, none⟩) l').trans h.c1, (hb.cell (p := ⟨w.heap.size + 1, 2, none⟩) l').trans h.c2, (hb.cell (p := ⟨w.heap.size + 1, 3, none⟩) l').trans h.c3, h.be.trans (hb.mono h.be.size), by omega⟩
theorem brief_is (a b : Int) (E : Int) (p : Bool) (w : World) (hE : Hid (spnE a b = E)) (hp : Hid ((E != 0 || decide (b - a < 200)) = p)) :
    Calls Tryz.prog 13 #[.agg #[.int .i64 a, .int .i64 b]] w fun e w' => e = .returned (.bool p) ∧ Below w.heap.size w w' := by
  rcases ez2 E with ⟨hz0, hzb⟩ | ⟨hz0, hzb⟩
  · have h0 := hE.out
    rw [hz0.out] at h0
    obtain ⟨a0, ab, b1, hs3⟩ := spnE_ok h0
    have ew : IntKind.i64.wrap (b - a) = b - a := IntWalk.i64_in _ (by omega)
    have hp2 := hp.out
    rw [hzb] at hp2
    simp only [Bool.false_or] at hp2
    by_cases h : b - a < 200
    · have hp3 : Hid (true = p) := Lib.hid (by rw [← hp2]; simpa using h)
      clear hp hp2 h0 hz0
      go_enter Tryz.func13, Tryz.ntmps13
      go_wp2_with fail
      refine (refSpan_is a b E _ hE).mono ?_
      rintro e x1 ⟨rfl, hb1⟩
      have z1 := hb1.size
      simp at z1
      have c0 : x1.cell? ⟨w.heap.size, 0, none⟩ = some (.int .i64 a) := by rw [(bcell hb1).1 _ _ (by simp)]; simp [go_sem]
      have c1 : x1.cell? ⟨w.heap.size, 1, none⟩ = some (.int .i64 b) := by rw [(bcell hb1).1 _ _ (by simp)]; simp [go_sem]
      have hB1 : Below w.heap.size w x1 := (by (repeat (first | (with_reducible refine Below.drew ?_) | (with_reducible refine below_drewN ?_ _) | (with_reducible refine Below.alloc ?_ (by first | omega | (simp; done) | (simp; omega) | (simp at *; omega)) _) | (with_reducible refine Below.setCell ?_ (by first | omega | (simp; done) | (simp; omega) | (simp at *; omega)) _) | (with_reducible exact Below.refl _ _) | (with_reducible assumption) | (with_reducible refine Below.trans ?_ (Below.mono (by assumption) (by first | omega | (simp; done) | (simp; omega) | (simp at *; omega)))))))
      clear hb1
      go_wp2
      go_ret
      exact ⟨by rw [hp3.out]; rfl, hB1⟩
    · have hp3 : Hid (false = p) := Lib.hid (by rw [← hp2]; simpa using h)
      have hd : decide (b - a < 200) = false := by simpa using h
      clear hp hp2 h0 hz0
      go_enter Tryz.func13, Tryz.ntmps13
      go_wp2_with fail
      refine (refSpan_is a b E _ hE).mono ?_
      rintro e x1 ⟨rfl, hb1⟩
      have z1 := hb1.size
      simp at z1
      have c0 : x1.cell? ⟨w.heap.size, 0, none⟩ = some (.int .i64 a) := by rw [(bcell hb1).1 _ _ (by simp)]; simp [go_sem]
      have c1 : x1.cell? ⟨w.heap.size, 1, none⟩ = some (.int .i64 b) := by rw [(bcell hb1).1 _ _ (by simp)]; simp [go_sem]
      have hB1 : Below w.heap.size w x1 := (by (repeat (first | (with_reducible refine Below.drew ?_) | (with_reducible refine below_drewN ?_ _) | (with_reducible refine Below.alloc ?_ (by first | omega | (simp; done) | (simp; omega) | (simp at *; omega)) _) | (with_reducible refine Below.setCell ?_ (by first | omega | (simp; done) | (simp; omega) | (simp at *; omega)) _) | (with_reducible exact Below.refl _ _) | (with_reducible assumption) | (with_reducible refine Below.trans ?_ (Below.mono (by assumption) (by first | omega | (simp; done) | (simp; omega) | (simp at *; omega)))))))
      clear hb1
      go_wp2
      go_ret
      exact ⟨by rw [hp3.out]; rfl, hB1⟩
  · have hp3 : Hid (true = p) := Lib.hid (by rw [← hp.out, hzb]; rfl)
    clear hp hz0
    go_enter Tryz.func13, Tryz.ntmps13
    go_wp2_with fail
    refine (refSpan_is a b E _ hE).mono ?_
    rintro e x1 ⟨rfl, hb1⟩
    have hB1 : Below w.heap.size w x1 := (by (repeat (first | (with_reducible refine Below.drew ?_) | (with_reducible refine below_drewN ?_ _) | (with_reducible refine Below.alloc ?_ (by first | omega | (simp; done) | (simp; omega) | (simp at *; omega)) _) | (with_reducible refine Below.setCell ?_ (by first | omega | (simp; done) | (simp; omega) | (simp at *; omega)) _) | (with_reducible exact Below.refl _ _) | (with_reducible assumption) | (with_reducible refine Below.trans ?_ (Below.mono (by assumption) (by first | omega | (simp; done) | (simp; omega) | (simp at *; omega)))))))
    clear hb1
    go_wp2
    go_ret
    exact ⟨by rw [hp3.out]; rfl, hB1⟩
theorem bWth_is (n a b : Int) (p : Bool) (w : World) (hp : Hid (inB n a b = p)) :
    Calls Tryz.prog 23 #[.int .i64 n, .int .i64 a, .int .i64 b] w fun e w' => e = .returned (.bool p) ∧ w = w' := by
  rw [← hp.out]; exact baseWithin_any n a b w
end Go.Proofs.YtojaompfffpofaaGreat
