/- What the specification's reading of a text returns: names, and what begins as no gas. -/
import Derived.Test.YtpagbkbaphjmdaaDoorRefParseB
namespace Go.Proofs.YtpagbkbaphjmdaaDoor
open Go.ChangeShapes Go.WideShapes Go.ChangeAt Go.RowKit
set_option linter.unusedVariables false
set_option linter.unusedSimpArgs false

set_option maxRecDepth 100000 in
set_option maxHeartbeats 2000000 in
theorem refParse_short (S : ByteArray) (w : World) (hl : S.size ≤ 40) (a1 : (S.toList == [97, 105, 114]) = false) (a2 : (S.toList == [111, 120, 121, 103, 101, 110]) = false) (a3 : (S.toList == [104, 101, 108, 105, 117, 109]) = false) (z1 : S.size < 3) :
    Calls Tryd.prog 8 #[.string S] w fun e w' => e = .returned (.tuple #[.agg #[.int .i64 0, .int .i64 0], .int .i64 7]) ∧ Below w.heap.size w w' := by
  have z2 : ¬ (3 : Int) < S.size := by omega
  have z3 : (S.size : Int) < 3 := by omega
  go_enter Tryd.func8, Tryd.ntmps8
  go_wp2
  refine bodyPost_ret (v := .tuple #[.agg #[.int .i64 0, .int .i64 0], .int .i64 7]) (by simp [results, Tryd.results8, go_sem, *]) rfl ⟨rfl, ?_⟩
  (repeat (first | (with_reducible refine Below.drew ?_) | (with_reducible refine below_drewN ?_ _) | (with_reducible refine Below.alloc ?_ (by first | omega | (simp; done) | (simp; omega) | (simp at *; omega)) _) | (with_reducible refine Below.setCell ?_ (by first | omega | (simp; done) | (simp; omega) | (simp at *; omega)) _) | (with_reducible exact Below.refl _ _) | (with_reducible assumption) | (with_reducible refine Below.trans ?_ (Below.mono (by assumption) (by first | omega | (simp; done) | (simp; omega) | (simp at *; omega))))))
set_option maxRecDepth 100000 in
set_option maxHeartbeats 2000000 in
theorem refParse_other3 (S : ByteArray) (w : World) (hl : S.size ≤ 40) (a1 : (S.toList == [97, 105, 114]) = false) (a2 : (S.toList == [111, 120, 121, 103, 101, 110]) = false) (a3 : (S.toList == [104, 101, 108, 105, 117, 109]) = false) (z1 : S.size = 3) (g2 : ((S.extract 0 2).toList == [110, 120]) = false) (g3 : ((S.extract 0 2).toList == [116, 120]) = false) :
    Calls Tryd.prog 8 #[.string S] w fun e w' => e = .returned (.tuple #[.agg #[.int .i64 0, .int .i64 0], .int .i64 7]) ∧ Below w.heap.size w w' := by
  have z2 : ¬ (3 : Int) < S.size := by omega
  have z3 : ¬ (S.size : Int) < 3 := by omega
  have z4 : (2 : Int) ≤ S.size := by omega
  go_enter Tryd.func8, Tryd.ntmps8
  go_wp2
  refine bodyPost_ret (v := .tuple #[.agg #[.int .i64 0, .int .i64 0], .int .i64 7]) (by simp [results, Tryd.results8, go_sem, *]) rfl ⟨rfl, ?_⟩
  (repeat (first | (with_reducible refine Below.drew ?_) | (with_reducible refine below_drewN ?_ _) | (with_reducible refine Below.alloc ?_ (by first | omega | (simp; done) | (simp; omega) | (simp at *; omega)) _) | (with_reducible refine Below.setCell ?_ (by first | omega | (simp; done) | (simp; omega) | (simp at *; omega)) _) | (with_reducible exact Below.refl _ _) | (with_reducible assumption) | (with_reducible refine Below.trans ?_ (Below.mono (by assumption) (by first | omega | (simp; done) | (simp; omega) | (simp at *; omega))))))
set_option maxRecDepth 100000 in
set_option maxHeartbeats 2000000 in
theorem refParse_other4 (S : ByteArray) (w : World) (hl : S.size ≤ 40) (a1 : (S.toList == [97, 105, 114]) = false) (a2 : (S.toList == [111, 120, 121, 103, 101, 110]) = false) (a3 : (S.toList == [104, 101, 108, 105, 117, 109]) = false) (z1 : 3 < S.size) (g1 : ((S.extract 0 3).toList == [103, 97, 115]) = false) (g2 : ((S.extract 0 2).toList == [110, 120]) = false) (g3 : ((S.extract 0 2).toList == [116, 120]) = false) :
    Calls Tryd.prog 8 #[.string S] w fun e w' => e = .returned (.tuple #[.agg #[.int .i64 0, .int .i64 0], .int .i64 7]) ∧ Below w.heap.size w w' := by
  have z2 : (3 : Int) < S.size := by omega
  have z3 : ¬ (S.size : Int) < 3 := by omega
  have z4 : (2 : Int) ≤ S.size := by omega
  go_enter Tryd.func8, Tryd.ntmps8
  go_wp2
  refine bodyPost_ret (v := .tuple #[.agg #[.int .i64 0, .int .i64 0], .int .i64 7]) (by simp [results, Tryd.results8, go_sem, *]) rfl ⟨rfl, ?_⟩
  (repeat (first | (with_reducible refine Below.drew ?_) | (with_reducible refine below_drewN ?_ _) | (with_reducible refine Below.alloc ?_ (by first | omega | (simp; done) | (simp; omega) | (simp at *; omega)) _) | (with_reducible refine Below.setCell ?_ (by first | omega | (simp; done) | (simp; omega) | (simp at *; omega)) _) | (with_reducible exact Below.refl _ _) | (with_reducible assumption) | (with_reducible refine Below.trans ?_ (Below.mono (by assumption) (by first | omega | (simp; done) | (simp; omega) | (simp at *; omega))))))
set_option maxRecDepth 100000 in
set_option maxHeartbeats 2000000 in
theorem refParse_yes_eAir (S : ByteArray) (w : World) (hl : S.size ≤ 40) (a0 : (S.toList == [97, 105, 114]) = true) :
    Calls Tryd.prog 8 #[.string S] w fun e w' => e = .returned (.tuple #[.agg #[.int .i64 210, .int .i64 0], .int .i64 0]) ∧ Below w.heap.size w w' := by
  go_enter Tryd.func8, Tryd.ntmps8
  go_wp2
  refine bodyPost_ret (v := .tuple #[.agg #[.int .i64 210, .int .i64 0], .int .i64 0]) (by simp [results, Tryd.results8, go_sem, *]) rfl ⟨rfl, ?_⟩
  (repeat (first | (with_reducible refine Below.drew ?_) | (with_reducible refine below_drewN ?_ _) | (with_reducible refine Below.alloc ?_ (by first | omega | (simp; done) | (simp; omega) | (simp at *; omega)) _) | (with_reducible refine Below.setCell ?_ (by first | omega | (simp; done) | (simp; omega) | (simp at *; omega)) _) | (with_reducible exact Below.refl _ _) | (with_reducible assumption) | (with_reducible refine Below.trans ?_ (Below.mono (by assumption) (by first | omega | (simp; done) | (simp; omega) | (simp at *; omega))))))
set_option maxRecDepth 100000 in
set_option maxHeartbeats 2000000 in
theorem refParse_yes_eOxy (S : ByteArray) (w : World) (hl : S.size ≤ 40) (a1 : (S.toList == [97, 105, 114]) = false) (a0 : (S.toList == [111, 120, 121, 103, 101, 110]) = true) :
    Calls Tryd.prog 8 #[.string S] w fun e w' => e = .returned (.tuple #[.agg #[.int .i64 1000, .int .i64 0], .int .i64 0]) ∧ Below w.heap.size w w' := by
  go_enter Tryd.func8, Tryd.ntmps8
  go_wp2
  refine bodyPost_ret (v := .tuple #[.agg #[.int .i64 1000, .int .i64 0], .int .i64 0]) (by simp [results, Tryd.results8, go_sem, *]) rfl ⟨rfl, ?_⟩
  (repeat (first | (with_reducible refine Below.drew ?_) | (with_reducible refine below_drewN ?_ _) | (with_reducible refine Below.alloc ?_ (by first | omega | (simp; done) | (simp; omega) | (simp at *; omega)) _) | (with_reducible refine Below.setCell ?_ (by first | omega | (simp; done) | (simp; omega) | (simp at *; omega)) _) | (with_reducible exact Below.refl _ _) | (with_reducible assumption) | (with_reducible refine Below.trans ?_ (Below.mono (by assumption) (by first | omega | (simp; done) | (simp; omega) | (simp at *; omega))))))
set_option maxRecDepth 100000 in
set_option maxHeartbeats 2000000 in
theorem refParse_yes_eHel (S : ByteArray) (w : World) (hl : S.size ≤ 40) (a1 : (S.toList == [97, 105, 114]) = false) (a2 : (S.toList == [111, 120, 121, 103, 101, 110]) = false) (a0 : (S.toList == [104, 101, 108, 105, 117, 109]) = true) :
    Calls Tryd.prog 8 #[.string S] w fun e w' => e = .returned (.tuple #[.agg #[.int .i64 0, .int .i64 1000], .int .i64 0]) ∧ Below w.heap.size w w' := by
  go_enter Tryd.func8, Tryd.ntmps8
  go_wp2
  refine bodyPost_ret (v := .tuple #[.agg #[.int .i64 0, .int .i64 1000], .int .i64 0]) (by simp [results, Tryd.results8, go_sem, *]) rfl ⟨rfl, ?_⟩
  (repeat (first | (with_reducible refine Below.drew ?_) | (with_reducible refine below_drewN ?_ _) | (with_reducible refine Below.alloc ?_ (by first | omega | (simp; done) | (simp; omega) | (simp at *; omega)) _) | (with_reducible refine Below.setCell ?_ (by first | omega | (simp; done) | (simp; omega) | (simp at *; omega)) _) | (with_reducible exact Below.refl _ _) | (with_reducible assumption) | (with_reducible refine Below.trans ?_ (Below.mono (by assumption) (by first | omega | (simp; done) | (simp; omega) | (simp at *; omega))))))
end Go.Proofs.YtpagbkbaphjmdaaDoor
