/- What the specification's reading of a text returns: trimix. -/
import Derived.Test.YtpagbkbaphjmdaaDoorRefParseB
namespace Go.Proofs.YtpagbkbaphjmdaaDoor
open Go.ChangeShapes Go.WideShapes Go.ChangeAt Go.RowKit
set_option linter.unusedVariables false
set_option linter.unusedSimpArgs false

set_option maxRecDepth 100000 in
set_option maxHeartbeats 2000000 in
theorem refParse_none_t41 (S : ByteArray) (w : World) (hl : S.size ≤ 40) (a1 : (S.toList == [97, 105, 114]) = false) (a2 : (S.toList == [111, 120, 121, 103, 101, 110]) = false) (a3 : (S.toList == [104, 101, 108, 105, 117, 109]) = false) (z1 : 3 < S.size) (g1 : ((S.extract 0 3).toList == [103, 97, 115]) = false) (g2 : ((S.extract 0 2).toList == [110, 120]) = false) (g3 : ((S.extract 0 2).toList == [116, 120]) = true) (T x y : ByteArray) (hx : S.extract 2 S.size = T) (hTs : T.size ≤ 1000) (hws : Hid (cutAll T = [x])) (hxs : x.size ≤ 1000) (hys : y.size ≤ 1000) (HN : Hid (NoGas S)) :
    Calls Tryd.prog 8 #[.string S] w fun e w' => e = .returned (.tuple #[.agg #[.int .i64 0, .int .i64 0], .int .i64 7]) ∧ Below w.heap.size w w' := by
  have z2 : (3 : Int) < S.size := by omega
  have z3 : ¬ (S.size : Int) < 3 := by omega
  have z4 : (2 : Int) ≤ S.size := by omega
  go_enter Tryd.func8, Tryd.ntmps8
  go_wp2_with fail
  refine (baseCut_any T _ hTs).mono ?_
  rintro e w1 ⟨v1, rfl, hTx, hbw1⟩
  rw [hws.out] at hTx
  obtain ⟨b1, cap1, rfl, lt1, ge1, hcc⟩ := hTx
  have z1 := hbw1.size
  try simp at z1
  try simp at ge1
  have e0 : w1.cell? ⟨b1, 0, none⟩ = some (.string x) := hcc 0 _ rfl
  have c10 : w1.cell? ⟨w.heap.size, 0, none⟩ = some (.int .i64 0) := by rw [(bcell hbw1).1 _ _ (by first | (simp; done) | (simp; omega) | omega)]; simp [go_sem, World.cell?_alloc_past, *]
  have c11 : w1.cell? ⟨w.heap.size, 1, none⟩ = some (.int .i64 0) := by rw [(bcell hbw1).1 _ _ (by first | (simp; done) | (simp; omega) | omega)]; simp [go_sem, World.cell?_alloc_past, *]
  have c12 : w1.cell? ⟨w.heap.size + 1, 0, none⟩ = some (.int .i64 0) := by rw [(bcell hbw1).1 _ _ (by first | (simp; done) | (simp; omega) | omega)]; simp [go_sem, World.cell?_alloc_past, *]
  have c13 : w1.cell? ⟨w.heap.size + 1, 1, none⟩ = some (.int .i64 0) := by rw [(bcell hbw1).1 _ _ (by first | (simp; done) | (simp; omega) | omega)]; simp [go_sem, World.cell?_alloc_past, *]
  have f10 : ∀ j, w1.frozen? ⟨w.heap.size, j, none⟩ = false := by intro j; rw [(bcell hbw1).2 _ _ (by first | (simp; done) | (simp; omega) | omega)]; simp [go_sem, *]
  have f11 : ∀ j, w1.frozen? ⟨w.heap.size + 1, j, none⟩ = false := by intro j; rw [(bcell hbw1).2 _ _ (by first | (simp; done) | (simp; omega) | omega)]; simp [go_sem, *]
  have hB1 : Below w.heap.size w w1 := (by (repeat (first | (with_reducible refine Below.drew ?_) | (with_reducible refine below_drewN ?_ _) | (with_reducible refine Below.alloc ?_ (by first | omega | (simp; done) | (simp; omega) | (simp at *; omega)) _) | (with_reducible refine Below.setCell ?_ (by first | omega | (simp; done) | (simp; omega) | (simp at *; omega)) _) | (with_reducible exact Below.refl _ _) | (with_reducible assumption) | (with_reducible refine Below.trans ?_ (Below.mono (by assumption) (by first | omega | (simp; done) | (simp; omega) | (simp at *; omega)))))))
  have nb1 : ¬ b1 = w.heap.size := by omega
  have nb2 : ¬ b1 = w.heap.size + 1 := by omega
  have nb3 : ¬ w.heap.size + 1 = b1 := by omega
  have nb4 : ¬ w.heap.size = b1 := by omega
  have o10 : w.heap.size < w1.heap.size := by omega
  have o11 : w.heap.size + 1 < w1.heap.size := by omega
  clear hbw1 hcc
  go_wp2_with fail
  refine (baseNumber_ex x _ hxs).mono ?_
  rintro e w2 ⟨⟨nn, ok, rfl⟩, hbw2⟩
  have zw2 := hbw2.size
  try simp at zw2
  have cw20 : w2.cell? ⟨w.heap.size, 0, none⟩ = some (.int .i64 0) := by rw [(bcell hbw2).1 _ _ (by first | (simp; done) | (simp; omega) | omega)]; simp [go_sem, World.cell?_alloc_past, *]
  have cw21 : w2.cell? ⟨w.heap.size, 1, none⟩ = some (.int .i64 0) := by rw [(bcell hbw2).1 _ _ (by first | (simp; done) | (simp; omega) | omega)]; simp [go_sem, World.cell?_alloc_past, *]
  have cw22 : w2.cell? ⟨w.heap.size + 1, 0, none⟩ = some (.int .i64 0) := by rw [(bcell hbw2).1 _ _ (by first | (simp; done) | (simp; omega) | omega)]; simp [go_sem, World.cell?_alloc_past, *]
  have cw23 : w2.cell? ⟨w.heap.size + 1, 1, none⟩ = some (.int .i64 0) := by rw [(bcell hbw2).1 _ _ (by first | (simp; done) | (simp; omega) | omega)]; simp [go_sem, World.cell?_alloc_past, *]
  have fw20 : ∀ j, w2.frozen? ⟨w.heap.size, j, none⟩ = false := by intro j; rw [(bcell hbw2).2 _ _ (by first | (simp; done) | (simp; omega) | omega)]; simp [go_sem, *]
  have fw21 : ∀ j, w2.frozen? ⟨w.heap.size + 1, j, none⟩ = false := by intro j; rw [(bcell hbw2).2 _ _ (by first | (simp; done) | (simp; omega) | omega)]; simp [go_sem, *]
  have hBw2 : Below w.heap.size w w2 := (by (repeat (first | (with_reducible refine Below.drew ?_) | (with_reducible refine below_drewN ?_ _) | (with_reducible refine Below.alloc ?_ (by first | omega | (simp; done) | (simp; omega) | (simp at *; omega)) _) | (with_reducible refine Below.setCell ?_ (by first | omega | (simp; done) | (simp; omega) | (simp at *; omega)) _) | (with_reducible exact Below.refl _ _) | (with_reducible assumption) | (with_reducible refine Below.trans ?_ (Below.mono (by assumption) (by first | omega | (simp; done) | (simp; omega) | (simp at *; omega)))))))
  have ow20 : w.heap.size < w2.heap.size := by omega
  have nw20 : w2.heap.size ≠ w.heap.size := by omega
  have mw20 : ¬ w.heap.size = w2.heap.size := by omega
  have tw20 : w.heap.size < w2.heap.size + 1 := by omega
  have ow21 : w.heap.size + 1 < w2.heap.size := by omega
  have nw21 : w2.heap.size ≠ w.heap.size + 1 := by omega
  have mw21 : ¬ w.heap.size + 1 = w2.heap.size := by omega
  have tw21 : w.heap.size + 1 < w2.heap.size + 1 := by omega
  clear hbw2
  cases ok
  · go_wp2
    refine bodyPost_ret (v := .tuple #[.agg #[.int .i64 0, .int .i64 0], .int .i64 7]) (by simp [results, Tryd.results8, go_sem, *]) rfl ⟨rfl, ?_⟩
    (repeat (first | (with_reducible refine Below.drew ?_) | (with_reducible refine below_drewN ?_ _) | (with_reducible refine Below.alloc ?_ (by first | omega | (simp; done) | (simp; omega) | (simp at *; omega)) _) | (with_reducible refine Below.setCell ?_ (by first | omega | (simp; done) | (simp; omega) | (simp at *; omega)) _) | (with_reducible exact Below.refl _ _) | (with_reducible assumption) | (with_reducible refine Below.trans ?_ (Below.mono (by assumption) (by first | omega | (simp; done) | (simp; omega) | (simp at *; omega))))))
  · skip
    obtain ⟨O, hO⟩ : ∃ O, wrap64 (10 * nn) = O := ⟨_, rfl⟩
    have hO' : IntKind.i64.wrap (10 * nn) = O := (IntWalk.i64_left _).trans hO
    obtain ⟨c, hc⟩ : ∃ c, Hid (gasE O 0 = c) := ⟨_, rfl⟩
    by_cases c0 : c = 0
    · subst c0
      obtain ⟨T', hT'⟩ : ∃ T' : ByteArray, Hid (T' = ⟨(fmtL O 0).toArray⟩) := ⟨_, rfl⟩
      have e3 : (T'.toList == S.toList) = false := neL fun e => HN.out O 0 hc.out (by rw [← e]; exact hT'.out)
      go_wp2_with ((go_at_call 9; ((with_reducible refine (refCheckGas_n O 0 0 _ hc).mono ?_)); rintro e w' ⟨rfl, rfl⟩))
      go_wp2_with fail
      refine (refFormat_is O 0 T' _ hc.out hT').mono ?_
      rintro e w4 ⟨rfl, hbw4⟩
      have zw4 := hbw4.size
      try simp at zw4
      have cw40 : w4.cell? ⟨w.heap.size, 0, none⟩ = some (.int .i64 0) := by rw [(bcell hbw4).1 _ _ (by first | (simp; done) | (simp; omega) | omega)]; simp [go_sem, World.cell?_alloc_past, *]
      have cw41 : w4.cell? ⟨w.heap.size, 1, none⟩ = some (.int .i64 0) := by rw [(bcell hbw4).1 _ _ (by first | (simp; done) | (simp; omega) | omega)]; simp [go_sem, World.cell?_alloc_past, *]
      have cw42 : w4.cell? ⟨w.heap.size + 1, 0, none⟩ = some (.int .i64 O) := by rw [(bcell hbw4).1 _ _ (by first | (simp; done) | (simp; omega) | omega)]; simp [go_sem, World.cell?_alloc_past, *]
      have cw43 : w4.cell? ⟨w.heap.size + 1, 1, none⟩ = some (.int .i64 0) := by rw [(bcell hbw4).1 _ _ (by first | (simp; done) | (simp; omega) | omega)]; simp [go_sem, World.cell?_alloc_past, *]
      have fw40 : ∀ j, w4.frozen? ⟨w.heap.size, j, none⟩ = false := by intro j; rw [(bcell hbw4).2 _ _ (by first | (simp; done) | (simp; omega) | omega)]; simp [go_sem, *]
      have fw41 : ∀ j, w4.frozen? ⟨w.heap.size + 1, j, none⟩ = false := by intro j; rw [(bcell hbw4).2 _ _ (by first | (simp; done) | (simp; omega) | omega)]; simp [go_sem, *]
      have hBw4 : Below w.heap.size w w4 := (by (repeat (first | (with_reducible refine Below.drew ?_) | (with_reducible refine below_drewN ?_ _) | (with_reducible refine Below.alloc ?_ (by first | omega | (simp; done) | (simp; omega) | (simp at *; omega)) _) | (with_reducible refine Below.setCell ?_ (by first | omega | (simp; done) | (simp; omega) | (simp at *; omega)) _) | (with_reducible exact Below.refl _ _) | (with_reducible assumption) | (with_reducible refine Below.trans ?_ (Below.mono (by assumption) (by first | omega | (simp; done) | (simp; omega) | (simp at *; omega)))))))
      have ow40 : w.heap.size < w4.heap.size := by omega
      have nw40 : w4.heap.size ≠ w.heap.size := by omega
      have mw40 : ¬ w.heap.size = w4.heap.size := by omega
      have tw40 : w.heap.size < w4.heap.size + 1 := by omega
      have ow41 : w.heap.size + 1 < w4.heap.size := by omega
      have nw41 : w4.heap.size ≠ w.heap.size + 1 := by omega
      have mw41 : ¬ w.heap.size + 1 = w4.heap.size := by omega
      have tw41 : w.heap.size + 1 < w4.heap.size + 1 := by omega
      clear hbw4
      go_wp2
      refine bodyPost_ret (v := .tuple #[.agg #[.int .i64 0, .int .i64 0], .int .i64 7]) (by simp [results, Tryd.results8, go_sem, *]) rfl ⟨rfl, ?_⟩
      (repeat (first | (with_reducible refine Below.drew ?_) | (with_reducible refine below_drewN ?_ _) | (with_reducible refine Below.alloc ?_ (by first | omega | (simp; done) | (simp; omega) | (simp at *; omega)) _) | (with_reducible refine Below.setCell ?_ (by first | omega | (simp; done) | (simp; omega) | (simp at *; omega)) _) | (with_reducible exact Below.refl _ _) | (with_reducible assumption) | (with_reducible refine Below.trans ?_ (Below.mono (by assumption) (by first | omega | (simp; done) | (simp; omega) | (simp at *; omega))))))
    · have cb : (c != 0) = true := by simpa using c0
      go_wp2_with ((go_at_call 9; ((with_reducible refine (refCheckGas_n O 0 c _ hc).mono ?_)); rintro e w' ⟨rfl, rfl⟩))
      refine bodyPost_ret (v := .tuple #[.agg #[.int .i64 0, .int .i64 0], .int .i64 7]) (by simp [results, Tryd.results8, go_sem, *]) rfl ⟨rfl, ?_⟩
      (repeat (first | (with_reducible refine Below.drew ?_) | (with_reducible refine below_drewN ?_ _) | (with_reducible refine Below.alloc ?_ (by first | omega | (simp; done) | (simp; omega) | (simp at *; omega)) _) | (with_reducible refine Below.setCell ?_ (by first | omega | (simp; done) | (simp; omega) | (simp at *; omega)) _) | (with_reducible exact Below.refl _ _) | (with_reducible assumption) | (with_reducible refine Below.trans ?_ (Below.mono (by assumption) (by first | omega | (simp; done) | (simp; omega) | (simp at *; omega))))))
set_option maxRecDepth 100000 in
set_option maxHeartbeats 2000000 in
theorem refParse_none_t42 (S : ByteArray) (w : World) (hl : S.size ≤ 40) (a1 : (S.toList == [97, 105, 114]) = false) (a2 : (S.toList == [111, 120, 121, 103, 101, 110]) = false) (a3 : (S.toList == [104, 101, 108, 105, 117, 109]) = false) (z1 : 3 < S.size) (g1 : ((S.extract 0 3).toList == [103, 97, 115]) = false) (g2 : ((S.extract 0 2).toList == [110, 120]) = false) (g3 : ((S.extract 0 2).toList == [116, 120]) = true) (T x y : ByteArray) (hx : S.extract 2 S.size = T) (hTs : T.size ≤ 1000) (hws : Hid (cutAll T = [x, y])) (hxs : x.size ≤ 1000) (hys : y.size ≤ 1000) (HN : Hid (NoGas S)) :
    Calls Tryd.prog 8 #[.string S] w fun e w' => e = .returned (.tuple #[.agg #[.int .i64 0, .int .i64 0], .int .i64 7]) ∧ Below w.heap.size w w' := by
  have z2 : (3 : Int) < S.size := by omega
  have z3 : ¬ (S.size : Int) < 3 := by omega
  have z4 : (2 : Int) ≤ S.size := by omega
  go_enter Tryd.func8, Tryd.ntmps8
  go_wp2_with fail
  refine (baseCut_any T _ hTs).mono ?_
  rintro e w1 ⟨v1, rfl, hTx, hbw1⟩
  rw [hws.out] at hTx
  obtain ⟨b1, cap1, rfl, lt1, ge1, hcc⟩ := hTx
  have z1 := hbw1.size
  try simp at z1
  try simp at ge1
  have e0 : w1.cell? ⟨b1, 0, none⟩ = some (.string x) := hcc 0 _ rfl
  have e1 : w1.cell? ⟨b1, 1, none⟩ = some (.string y) := hcc 1 _ rfl
  have c10 : w1.cell? ⟨w.heap.size, 0, none⟩ = some (.int .i64 0) := by rw [(bcell hbw1).1 _ _ (by first | (simp; done) | (simp; omega) | omega)]; simp [go_sem, World.cell?_alloc_past, *]
  have c11 : w1.cell? ⟨w.heap.size, 1, none⟩ = some (.int .i64 0) := by rw [(bcell hbw1).1 _ _ (by first | (simp; done) | (simp; omega) | omega)]; simp [go_sem, World.cell?_alloc_past, *]
  have c12 : w1.cell? ⟨w.heap.size + 1, 0, none⟩ = some (.int .i64 0) := by rw [(bcell hbw1).1 _ _ (by first | (simp; done) | (simp; omega) | omega)]; simp [go_sem, World.cell?_alloc_past, *]
  have c13 : w1.cell? ⟨w.heap.size + 1, 1, none⟩ = some (.int .i64 0) := by rw [(bcell hbw1).1 _ _ (by first | (simp; done) | (simp; omega) | omega)]; simp [go_sem, World.cell?_alloc_past, *]
  have f10 : ∀ j, w1.frozen? ⟨w.heap.size, j, none⟩ = false := by intro j; rw [(bcell hbw1).2 _ _ (by first | (simp; done) | (simp; omega) | omega)]; simp [go_sem, *]
  have f11 : ∀ j, w1.frozen? ⟨w.heap.size + 1, j, none⟩ = false := by intro j; rw [(bcell hbw1).2 _ _ (by first | (simp; done) | (simp; omega) | omega)]; simp [go_sem, *]
  have hB1 : Below w.heap.size w w1 := (by (repeat (first | (with_reducible refine Below.drew ?_) | (with_reducible refine below_drewN ?_ _) | (with_reducible refine Below.alloc ?_ (by first | omega | (simp; done) | (simp; omega) | (simp at *; omega)) _) | (with_reducible refine Below.setCell ?_ (by first | omega | (simp; done) | (simp; omega) | (simp at *; omega)) _) | (with_reducible exact Below.refl _ _) | (with_reducible assumption) | (with_reducible refine Below.trans ?_ (Below.mono (by assumption) (by first | omega | (simp; done) | (simp; omega) | (simp at *; omega)))))))
  have nb1 : ¬ b1 = w.heap.size := by omega
  have nb2 : ¬ b1 = w.heap.size + 1 := by omega
  have nb3 : ¬ w.heap.size + 1 = b1 := by omega
  have nb4 : ¬ w.heap.size = b1 := by omega
  have o10 : w.heap.size < w1.heap.size := by omega
  have o11 : w.heap.size + 1 < w1.heap.size := by omega
  clear hbw1 hcc
  go_wp2_with fail
  refine (baseNumber_ex x _ hxs).mono ?_
  rintro e w2 ⟨⟨nn, ok, rfl⟩, hbw2⟩
  have zw2 := hbw2.size
  try simp at zw2
  have cw20 : w2.cell? ⟨w.heap.size, 0, none⟩ = some (.int .i64 0) := by rw [(bcell hbw2).1 _ _ (by first | (simp; done) | (simp; omega) | omega)]; simp [go_sem, World.cell?_alloc_past, *]
  have cw21 : w2.cell? ⟨w.heap.size, 1, none⟩ = some (.int .i64 0) := by rw [(bcell hbw2).1 _ _ (by first | (simp; done) | (simp; omega) | omega)]; simp [go_sem, World.cell?_alloc_past, *]
  have cw22 : w2.cell? ⟨w.heap.size + 1, 0, none⟩ = some (.int .i64 0) := by rw [(bcell hbw2).1 _ _ (by first | (simp; done) | (simp; omega) | omega)]; simp [go_sem, World.cell?_alloc_past, *]
  have cw23 : w2.cell? ⟨w.heap.size + 1, 1, none⟩ = some (.int .i64 0) := by rw [(bcell hbw2).1 _ _ (by first | (simp; done) | (simp; omega) | omega)]; simp [go_sem, World.cell?_alloc_past, *]
  have cw24 : w2.cell? ⟨b1, 1, none⟩ = some (.string y) := by rw [(bcell hbw2).1 _ _ (by first | (simp; done) | (simp; omega) | omega)]; simp [go_sem, World.cell?_alloc_past, *]
  have fw20 : ∀ j, w2.frozen? ⟨w.heap.size, j, none⟩ = false := by intro j; rw [(bcell hbw2).2 _ _ (by first | (simp; done) | (simp; omega) | omega)]; simp [go_sem, *]
  have fw21 : ∀ j, w2.frozen? ⟨w.heap.size + 1, j, none⟩ = false := by intro j; rw [(bcell hbw2).2 _ _ (by first | (simp; done) | (simp; omega) | omega)]; simp [go_sem, *]
  have hBw2 : Below w.heap.size w w2 := (by (repeat (first | (with_reducible refine Below.drew ?_) | (with_reducible refine below_drewN ?_ _) | (with_reducible refine Below.alloc ?_ (by first | omega | (simp; done) | (simp; omega) | (simp at *; omega)) _) | (with_reducible refine Below.setCell ?_ (by first | omega | (simp; done) | (simp; omega) | (simp at *; omega)) _) | (with_reducible exact Below.refl _ _) | (with_reducible assumption) | (with_reducible refine Below.trans ?_ (Below.mono (by assumption) (by first | omega | (simp; done) | (simp; omega) | (simp at *; omega)))))))
  have ow20 : w.heap.size < w2.heap.size := by omega
  have nw20 : w2.heap.size ≠ w.heap.size := by omega
  have mw20 : ¬ w.heap.size = w2.heap.size := by omega
  have tw20 : w.heap.size < w2.heap.size + 1 := by omega
  have ow21 : w.heap.size + 1 < w2.heap.size := by omega
  have nw21 : w2.heap.size ≠ w.heap.size + 1 := by omega
  have mw21 : ¬ w.heap.size + 1 = w2.heap.size := by omega
  have tw21 : w.heap.size + 1 < w2.heap.size + 1 := by omega
  have ow22 : b1 < w2.heap.size := by omega
  have nw22 : w2.heap.size ≠ b1 := by omega
  have mw22 : ¬ b1 = w2.heap.size := by omega
  have tw22 : b1 < w2.heap.size + 1 := by omega
  clear hbw2
  cases ok
  · go_wp2
    refine bodyPost_ret (v := .tuple #[.agg #[.int .i64 0, .int .i64 0], .int .i64 7]) (by simp [results, Tryd.results8, go_sem, *]) rfl ⟨rfl, ?_⟩
    (repeat (first | (with_reducible refine Below.drew ?_) | (with_reducible refine below_drewN ?_ _) | (with_reducible refine Below.alloc ?_ (by first | omega | (simp; done) | (simp; omega) | (simp at *; omega)) _) | (with_reducible refine Below.setCell ?_ (by first | omega | (simp; done) | (simp; omega) | (simp at *; omega)) _) | (with_reducible exact Below.refl _ _) | (with_reducible assumption) | (with_reducible refine Below.trans ?_ (Below.mono (by assumption) (by first | omega | (simp; done) | (simp; omega) | (simp at *; omega))))))
  · skip
    obtain ⟨O, hO⟩ : ∃ O, wrap64 (10 * nn) = O := ⟨_, rfl⟩
    have hO' : IntKind.i64.wrap (10 * nn) = O := (IntWalk.i64_left _).trans hO
    go_wp2_with fail
    refine (baseNumber_ex y _ hys).mono ?_
    rintro e w3 ⟨⟨kk, ok2, rfl⟩, hbw3⟩
    have zw3 := hbw3.size
    try simp at zw3
    have cw30 : w3.cell? ⟨w.heap.size, 0, none⟩ = some (.int .i64 0) := by rw [(bcell hbw3).1 _ _ (by first | (simp; done) | (simp; omega) | omega)]; simp [go_sem, World.cell?_alloc_past, *]
    have cw31 : w3.cell? ⟨w.heap.size, 1, none⟩ = some (.int .i64 0) := by rw [(bcell hbw3).1 _ _ (by first | (simp; done) | (simp; omega) | omega)]; simp [go_sem, World.cell?_alloc_past, *]
    have cw32 : w3.cell? ⟨w.heap.size + 1, 0, none⟩ = some (.int .i64 O) := by rw [(bcell hbw3).1 _ _ (by first | (simp; done) | (simp; omega) | omega)]; simp [go_sem, World.cell?_alloc_past, *]
    have cw33 : w3.cell? ⟨w.heap.size + 1, 1, none⟩ = some (.int .i64 0) := by rw [(bcell hbw3).1 _ _ (by first | (simp; done) | (simp; omega) | omega)]; simp [go_sem, World.cell?_alloc_past, *]
    have fw30 : ∀ j, w3.frozen? ⟨w.heap.size, j, none⟩ = false := by intro j; rw [(bcell hbw3).2 _ _ (by first | (simp; done) | (simp; omega) | omega)]; simp [go_sem, *]
    have fw31 : ∀ j, w3.frozen? ⟨w.heap.size + 1, j, none⟩ = false := by intro j; rw [(bcell hbw3).2 _ _ (by first | (simp; done) | (simp; omega) | omega)]; simp [go_sem, *]
    have hBw3 : Below w.heap.size w w3 := (by (repeat (first | (with_reducible refine Below.drew ?_) | (with_reducible refine below_drewN ?_ _) | (with_reducible refine Below.alloc ?_ (by first | omega | (simp; done) | (simp; omega) | (simp at *; omega)) _) | (with_reducible refine Below.setCell ?_ (by first | omega | (simp; done) | (simp; omega) | (simp at *; omega)) _) | (with_reducible exact Below.refl _ _) | (with_reducible assumption) | (with_reducible refine Below.trans ?_ (Below.mono (by assumption) (by first | omega | (simp; done) | (simp; omega) | (simp at *; omega)))))))
    have ow30 : w.heap.size < w3.heap.size := by omega
    have nw30 : w3.heap.size ≠ w.heap.size := by omega
    have mw30 : ¬ w.heap.size = w3.heap.size := by omega
    have tw30 : w.heap.size < w3.heap.size + 1 := by omega
    have ow31 : w.heap.size + 1 < w3.heap.size := by omega
    have nw31 : w3.heap.size ≠ w.heap.size + 1 := by omega
    have mw31 : ¬ w.heap.size + 1 = w3.heap.size := by omega
    have tw31 : w.heap.size + 1 < w3.heap.size + 1 := by omega
    clear hbw3
    cases ok2
    · go_wp2
      refine bodyPost_ret (v := .tuple #[.agg #[.int .i64 0, .int .i64 0], .int .i64 7]) (by simp [results, Tryd.results8, go_sem, *]) rfl ⟨rfl, ?_⟩
      (repeat (first | (with_reducible refine Below.drew ?_) | (with_reducible refine below_drewN ?_ _) | (with_reducible refine Below.alloc ?_ (by first | omega | (simp; done) | (simp; omega) | (simp at *; omega)) _) | (with_reducible refine Below.setCell ?_ (by first | omega | (simp; done) | (simp; omega) | (simp at *; omega)) _) | (with_reducible exact Below.refl _ _) | (with_reducible assumption) | (with_reducible refine Below.trans ?_ (Below.mono (by assumption) (by first | omega | (simp; done) | (simp; omega) | (simp at *; omega))))))
    · skip
      obtain ⟨K, hK⟩ : ∃ K, wrap64 (10 * kk) = K := ⟨_, rfl⟩
      have hK' : IntKind.i64.wrap (10 * kk) = K := (IntWalk.i64_left _).trans hK
      obtain ⟨c, hc⟩ : ∃ c, Hid (gasE O K = c) := ⟨_, rfl⟩
      by_cases c0 : c = 0
      · subst c0
        obtain ⟨T', hT'⟩ : ∃ T' : ByteArray, Hid (T' = ⟨(fmtL O K).toArray⟩) := ⟨_, rfl⟩
        have e3 : (T'.toList == S.toList) = false := neL fun e => HN.out O K hc.out (by rw [← e]; exact hT'.out)
        go_wp2_with ((go_at_call 9; ((with_reducible refine (refCheckGas_n O K 0 _ hc).mono ?_)); rintro e w' ⟨rfl, rfl⟩))
        go_wp2_with fail
        refine (refFormat_is O K T' _ hc.out hT').mono ?_
        rintro e w4 ⟨rfl, hbw4⟩
        have zw4 := hbw4.size
        try simp at zw4
        have cw40 : w4.cell? ⟨w.heap.size, 0, none⟩ = some (.int .i64 0) := by rw [(bcell hbw4).1 _ _ (by first | (simp; done) | (simp; omega) | omega)]; simp [go_sem, World.cell?_alloc_past, *]
        have cw41 : w4.cell? ⟨w.heap.size, 1, none⟩ = some (.int .i64 0) := by rw [(bcell hbw4).1 _ _ (by first | (simp; done) | (simp; omega) | omega)]; simp [go_sem, World.cell?_alloc_past, *]
        have cw42 : w4.cell? ⟨w.heap.size + 1, 0, none⟩ = some (.int .i64 O) := by rw [(bcell hbw4).1 _ _ (by first | (simp; done) | (simp; omega) | omega)]; simp [go_sem, World.cell?_alloc_past, *]
        have cw43 : w4.cell? ⟨w.heap.size + 1, 1, none⟩ = some (.int .i64 K) := by rw [(bcell hbw4).1 _ _ (by first | (simp; done) | (simp; omega) | omega)]; simp [go_sem, World.cell?_alloc_past, *]
        have fw40 : ∀ j, w4.frozen? ⟨w.heap.size, j, none⟩ = false := by intro j; rw [(bcell hbw4).2 _ _ (by first | (simp; done) | (simp; omega) | omega)]; simp [go_sem, *]
        have fw41 : ∀ j, w4.frozen? ⟨w.heap.size + 1, j, none⟩ = false := by intro j; rw [(bcell hbw4).2 _ _ (by first | (simp; done) | (simp; omega) | omega)]; simp [go_sem, *]
        have hBw4 : Below w.heap.size w w4 := (by (repeat (first | (with_reducible refine Below.drew ?_) | (with_reducible refine below_drewN ?_ _) | (with_reducible refine Below.alloc ?_ (by first | omega | (simp; done) | (simp; omega) | (simp at *; omega)) _) | (with_reducible refine Below.setCell ?_ (by first | omega | (simp; done) | (simp; omega) | (simp at *; omega)) _) | (with_reducible exact Below.refl _ _) | (with_reducible assumption) | (with_reducible refine Below.trans ?_ (Below.mono (by assumption) (by first | omega | (simp; done) | (simp; omega) | (simp at *; omega)))))))
        have ow40 : w.heap.size < w4.heap.size := by omega
        have nw40 : w4.heap.size ≠ w.heap.size := by omega
        have mw40 : ¬ w.heap.size = w4.heap.size := by omega
        have tw40 : w.heap.size < w4.heap.size + 1 := by omega
        have ow41 : w.heap.size + 1 < w4.heap.size := by omega
        have nw41 : w4.heap.size ≠ w.heap.size + 1 := by omega
        have mw41 : ¬ w.heap.size + 1 = w4.heap.size := by omega
        have tw41 : w.heap.size + 1 < w4.heap.size + 1 := by omega
        clear hbw4
        go_wp2
        refine bodyPost_ret (v := .tuple #[.agg #[.int .i64 0, .int .i64 0], .int .i64 7]) (by simp [results, Tryd.results8, go_sem, *]) rfl ⟨rfl, ?_⟩
        (repeat (first | (with_reducible refine Below.drew ?_) | (with_reducible refine below_drewN ?_ _) | (with_reducible refine Below.alloc ?_ (by first | omega | (simp; done) | (simp; omega) | (simp at *; omega)) _) | (with_reducible refine Below.setCell ?_ (by first | omega | (simp; done) | (simp; omega) | (simp at *; omega)) _) | (with_reducible exact Below.refl _ _) | (with_reducible assumption) | (with_reducible refine Below.trans ?_ (Below.mono (by assumption) (by first | omega | (simp; done) | (simp; omega) | (simp at *; omega))))))
      · have cb : (c != 0) = true := by simpa using c0
        go_wp2_with ((go_at_call 9; ((with_reducible refine (refCheckGas_n O K c _ hc).mono ?_)); rintro e w' ⟨rfl, rfl⟩))
        refine bodyPost_ret (v := .tuple #[.agg #[.int .i64 0, .int .i64 0], .int .i64 7]) (by simp [results, Tryd.results8, go_sem, *]) rfl ⟨rfl, ?_⟩
        (repeat (first | (with_reducible refine Below.drew ?_) | (with_reducible refine below_drewN ?_ _) | (with_reducible refine Below.alloc ?_ (by first | omega | (simp; done) | (simp; omega) | (simp at *; omega)) _) | (with_reducible refine Below.setCell ?_ (by first | omega | (simp; done) | (simp; omega) | (simp at *; omega)) _) | (with_reducible exact Below.refl _ _) | (with_reducible assumption) | (with_reducible refine Below.trans ?_ (Below.mono (by assumption) (by first | omega | (simp; done) | (simp; omega) | (simp at *; omega))))))
set_option maxRecDepth 100000 in
set_option maxHeartbeats 2000000 in
theorem refParse_many_t4 (S : ByteArray) (w : World) (hl : S.size ≤ 40) (a1 : (S.toList == [97, 105, 114]) = false) (a2 : (S.toList == [111, 120, 121, 103, 101, 110]) = false) (a3 : (S.toList == [104, 101, 108, 105, 117, 109]) = false) (z1 : 3 < S.size) (g1 : ((S.extract 0 3).toList == [103, 97, 115]) = false) (g2 : ((S.extract 0 2).toList == [110, 120]) = false) (g3 : ((S.extract 0 2).toList == [116, 120]) = true) (T : ByteArray) (ws : List ByteArray) (hx : S.extract 2 S.size = T) (hTs : T.size ≤ 1000) (hws : Hid (cutAll T = ws)) (hn : 2 < ws.length) :
    Calls Tryd.prog 8 #[.string S] w fun e w' => e = .returned (.tuple #[.agg #[.int .i64 0, .int .i64 0], .int .i64 7]) ∧ Below w.heap.size w w' := by
  have z2 : (3 : Int) < S.size := by omega
  have z3 : ¬ (S.size : Int) < 3 := by omega
  have z4 : (2 : Int) ≤ S.size := by omega
  have hn2 : (2 : Int) < ws.length := by omega
  go_enter Tryd.func8, Tryd.ntmps8
  go_wp2_with fail
  refine (baseCut_any T _ hTs).mono ?_
  rintro e w1 ⟨v1, rfl, hTx, hbw1⟩
  rw [hws.out] at hTx
  obtain ⟨b1, cap1, rfl, lt1, ge1, hcc⟩ := hTx
  have z1' := hbw1.size
  try simp at z1'
  have c10 : w1.cell? ⟨w.heap.size, 0, none⟩ = some (.int .i64 0) := by rw [(bcell hbw1).1 _ _ (by first | (simp; done) | (simp; omega) | omega)]; simp [go_sem, World.cell?_alloc_past, *]
  have c11 : w1.cell? ⟨w.heap.size, 1, none⟩ = some (.int .i64 0) := by rw [(bcell hbw1).1 _ _ (by first | (simp; done) | (simp; omega) | omega)]; simp [go_sem, World.cell?_alloc_past, *]
  have c12 : w1.cell? ⟨w.heap.size + 1, 0, none⟩ = some (.int .i64 0) := by rw [(bcell hbw1).1 _ _ (by first | (simp; done) | (simp; omega) | omega)]; simp [go_sem, World.cell?_alloc_past, *]
  have c13 : w1.cell? ⟨w.heap.size + 1, 1, none⟩ = some (.int .i64 0) := by rw [(bcell hbw1).1 _ _ (by first | (simp; done) | (simp; omega) | omega)]; simp [go_sem, World.cell?_alloc_past, *]
  have f10 : ∀ j, w1.frozen? ⟨w.heap.size, j, none⟩ = false := by intro j; rw [(bcell hbw1).2 _ _ (by first | (simp; done) | (simp; omega) | omega)]; simp [go_sem, *]
  have f11 : ∀ j, w1.frozen? ⟨w.heap.size + 1, j, none⟩ = false := by intro j; rw [(bcell hbw1).2 _ _ (by first | (simp; done) | (simp; omega) | omega)]; simp [go_sem, *]
  have hB1 : Below w.heap.size w w1 := (by (repeat (first | (with_reducible refine Below.drew ?_) | (with_reducible refine below_drewN ?_ _) | (with_reducible refine Below.alloc ?_ (by first | omega | (simp; done) | (simp; omega) | (simp at *; omega)) _) | (with_reducible refine Below.setCell ?_ (by first | omega | (simp; done) | (simp; omega) | (simp at *; omega)) _) | (with_reducible exact Below.refl _ _) | (with_reducible assumption) | (with_reducible refine Below.trans ?_ (Below.mono (by assumption) (by first | omega | (simp; done) | (simp; omega) | (simp at *; omega)))))))
  clear hbw1 hcc
  go_wp2
  refine bodyPost_ret (v := .tuple #[.agg #[.int .i64 0, .int .i64 0], .int .i64 7]) (by simp [results, Tryd.results8, go_sem, *]) rfl ⟨rfl, ?_⟩
  (repeat (first | (with_reducible refine Below.drew ?_) | (with_reducible refine below_drewN ?_ _) | (with_reducible refine Below.alloc ?_ (by first | omega | (simp; done) | (simp; omega) | (simp at *; omega)) _) | (with_reducible refine Below.setCell ?_ (by first | omega | (simp; done) | (simp; omega) | (simp at *; omega)) _) | (with_reducible exact Below.refl _ _) | (with_reducible assumption) | (with_reducible refine Below.trans ?_ (Below.mono (by assumption) (by first | omega | (simp; done) | (simp; omega) | (simp at *; omega))))))
set_option maxRecDepth 100000 in
set_option maxHeartbeats 2000000 in
theorem refParse_yes_t4 (S : ByteArray) (w : World) (hl : S.size ≤ 40) (a1 : (S.toList == [97, 105, 114]) = false) (a2 : (S.toList == [111, 120, 121, 103, 101, 110]) = false) (a3 : (S.toList == [104, 101, 108, 105, 117, 109]) = false) (z1 : 3 < S.size) (g1 : ((S.extract 0 3).toList == [103, 97, 115]) = false) (g2 : ((S.extract 0 2).toList == [110, 120]) = false) (g3 : ((S.extract 0 2).toList == [116, 120]) = true) (T x y : ByteArray) (o h : Int) (hx : S.extract 2 S.size = T) (hTs : T.size ≤ 1000) (hws : Hid (cutAll T = [x, y])) (nn : Int) (hnx : ∀ w, Calls Tryd.prog 21 #[.string x, .int .i64 4] w fun e w' => e = .returned (.tuple #[.int .i64 nn, .bool true]) ∧ Below w.heap.size w w') (hO : IntKind.i64.wrap (10 * nn) = o) (hO2 : wrap64 (10 * nn) = o) (kk : Int) (hny : ∀ w, Calls Tryd.prog 21 #[.string y, .int .i64 4] w fun e w' => e = .returned (.tuple #[.int .i64 kk, .bool true]) ∧ Below w.heap.size w w') (hK : IntKind.i64.wrap (10 * kk) = h) (hK2 : wrap64 (10 * kk) = h) (hg : Hid (gasE o h = 0)) (hS : Hid (S = ⟨(fmtL o h).toArray⟩)) :
    Calls Tryd.prog 8 #[.string S] w fun e w' => e = .returned (.tuple #[.agg #[.int .i64 o, .int .i64 h], .int .i64 0]) ∧ Below w.heap.size w w' := by
  have z2 : (3 : Int) < S.size := by omega
  have z3 : ¬ (S.size : Int) < 3 := by omega
  have z4 : (2 : Int) ≤ S.size := by omega
  go_enter Tryd.func8, Tryd.ntmps8
  go_wp2_with fail
  refine (baseCut_any T _ hTs).mono ?_
  rintro e w1 ⟨v1, rfl, hTx, hbw1⟩
  rw [hws.out] at hTx
  obtain ⟨b1, cap1, rfl, lt1, ge1, hcc⟩ := hTx
  have z1 := hbw1.size
  try simp at z1
  try simp at ge1
  have e0 : w1.cell? ⟨b1, 0, none⟩ = some (.string x) := hcc 0 _ rfl
  have e1 : w1.cell? ⟨b1, 1, none⟩ = some (.string y) := hcc 1 _ rfl
  have c10 : w1.cell? ⟨w.heap.size, 0, none⟩ = some (.int .i64 0) := by rw [(bcell hbw1).1 _ _ (by first | (simp; done) | (simp; omega) | omega)]; simp [go_sem, World.cell?_alloc_past, *]
  have c11 : w1.cell? ⟨w.heap.size, 1, none⟩ = some (.int .i64 0) := by rw [(bcell hbw1).1 _ _ (by first | (simp; done) | (simp; omega) | omega)]; simp [go_sem, World.cell?_alloc_past, *]
  have c12 : w1.cell? ⟨w.heap.size + 1, 0, none⟩ = some (.int .i64 0) := by rw [(bcell hbw1).1 _ _ (by first | (simp; done) | (simp; omega) | omega)]; simp [go_sem, World.cell?_alloc_past, *]
  have c13 : w1.cell? ⟨w.heap.size + 1, 1, none⟩ = some (.int .i64 0) := by rw [(bcell hbw1).1 _ _ (by first | (simp; done) | (simp; omega) | omega)]; simp [go_sem, World.cell?_alloc_past, *]
  have f10 : ∀ j, w1.frozen? ⟨w.heap.size, j, none⟩ = false := by intro j; rw [(bcell hbw1).2 _ _ (by first | (simp; done) | (simp; omega) | omega)]; simp [go_sem, *]
  have f11 : ∀ j, w1.frozen? ⟨w.heap.size + 1, j, none⟩ = false := by intro j; rw [(bcell hbw1).2 _ _ (by first | (simp; done) | (simp; omega) | omega)]; simp [go_sem, *]
  have hB1 : Below w.heap.size w w1 := (by (repeat (first | (with_reducible refine Below.drew ?_) | (with_reducible refine below_drewN ?_ _) | (with_reducible refine Below.alloc ?_ (by first | omega | (simp; done) | (simp; omega) | (simp at *; omega)) _) | (with_reducible refine Below.setCell ?_ (by first | omega | (simp; done) | (simp; omega) | (simp at *; omega)) _) | (with_reducible exact Below.refl _ _) | (with_reducible assumption) | (with_reducible refine Below.trans ?_ (Below.mono (by assumption) (by first | omega | (simp; done) | (simp; omega) | (simp at *; omega)))))))
  have nb1 : ¬ b1 = w.heap.size := by omega
  have nb2 : ¬ b1 = w.heap.size + 1 := by omega
  have nb3 : ¬ w.heap.size + 1 = b1 := by omega
  have nb4 : ¬ w.heap.size = b1 := by omega
  have o10 : w.heap.size < w1.heap.size := by omega
  have o11 : w.heap.size + 1 < w1.heap.size := by omega
  clear hbw1 hcc
  go_wp2_with fail
  refine (hnx _).mono ?_
  rintro e w2 ⟨rfl, hbw2⟩
  have zw2 := hbw2.size
  try simp at zw2
  have cw20 : w2.cell? ⟨w.heap.size, 0, none⟩ = some (.int .i64 0) := by rw [(bcell hbw2).1 _ _ (by first | (simp; done) | (simp; omega) | omega)]; simp [go_sem, World.cell?_alloc_past, *]
  have cw21 : w2.cell? ⟨w.heap.size, 1, none⟩ = some (.int .i64 0) := by rw [(bcell hbw2).1 _ _ (by first | (simp; done) | (simp; omega) | omega)]; simp [go_sem, World.cell?_alloc_past, *]
  have cw22 : w2.cell? ⟨w.heap.size + 1, 0, none⟩ = some (.int .i64 0) := by rw [(bcell hbw2).1 _ _ (by first | (simp; done) | (simp; omega) | omega)]; simp [go_sem, World.cell?_alloc_past, *]
  have cw23 : w2.cell? ⟨w.heap.size + 1, 1, none⟩ = some (.int .i64 0) := by rw [(bcell hbw2).1 _ _ (by first | (simp; done) | (simp; omega) | omega)]; simp [go_sem, World.cell?_alloc_past, *]
  have cw24 : w2.cell? ⟨b1, 1, none⟩ = some (.string y) := by rw [(bcell hbw2).1 _ _ (by first | (simp; done) | (simp; omega) | omega)]; simp [go_sem, World.cell?_alloc_past, *]
  have fw20 : ∀ j, w2.frozen? ⟨w.heap.size, j, none⟩ = false := by intro j; rw [(bcell hbw2).2 _ _ (by first | (simp; done) | (simp; omega) | omega)]; simp [go_sem, *]
  have fw21 : ∀ j, w2.frozen? ⟨w.heap.size + 1, j, none⟩ = false := by intro j; rw [(bcell hbw2).2 _ _ (by first | (simp; done) | (simp; omega) | omega)]; simp [go_sem, *]
  have hBw2 : Below w.heap.size w w2 := (by (repeat (first | (with_reducible refine Below.drew ?_) | (with_reducible refine below_drewN ?_ _) | (with_reducible refine Below.alloc ?_ (by first | omega | (simp; done) | (simp; omega) | (simp at *; omega)) _) | (with_reducible refine Below.setCell ?_ (by first | omega | (simp; done) | (simp; omega) | (simp at *; omega)) _) | (with_reducible exact Below.refl _ _) | (with_reducible assumption) | (with_reducible refine Below.trans ?_ (Below.mono (by assumption) (by first | omega | (simp; done) | (simp; omega) | (simp at *; omega)))))))
  have ow20 : w.heap.size < w2.heap.size := by omega
  have nw20 : w2.heap.size ≠ w.heap.size := by omega
  have mw20 : ¬ w.heap.size = w2.heap.size := by omega
  have tw20 : w.heap.size < w2.heap.size + 1 := by omega
  have ow21 : w.heap.size + 1 < w2.heap.size := by omega
  have nw21 : w2.heap.size ≠ w.heap.size + 1 := by omega
  have mw21 : ¬ w.heap.size + 1 = w2.heap.size := by omega
  have tw21 : w.heap.size + 1 < w2.heap.size + 1 := by omega
  have ow22 : b1 < w2.heap.size := by omega
  have nw22 : w2.heap.size ≠ b1 := by omega
  have mw22 : ¬ b1 = w2.heap.size := by omega
  have tw22 : b1 < w2.heap.size + 1 := by omega
  clear hbw2
  go_wp2_with fail
  refine (hny _).mono ?_
  rintro e w3 ⟨rfl, hbw3⟩
  have zw3 := hbw3.size
  try simp at zw3
  have cw30 : w3.cell? ⟨w.heap.size, 0, none⟩ = some (.int .i64 0) := by rw [(bcell hbw3).1 _ _ (by first | (simp; done) | (simp; omega) | omega)]; simp [go_sem, World.cell?_alloc_past, *]
  have cw31 : w3.cell? ⟨w.heap.size, 1, none⟩ = some (.int .i64 0) := by rw [(bcell hbw3).1 _ _ (by first | (simp; done) | (simp; omega) | omega)]; simp [go_sem, World.cell?_alloc_past, *]
  have cw32 : w3.cell? ⟨w.heap.size + 1, 0, none⟩ = some (.int .i64 o) := by rw [(bcell hbw3).1 _ _ (by first | (simp; done) | (simp; omega) | omega)]; simp [go_sem, World.cell?_alloc_past, *]
  have cw33 : w3.cell? ⟨w.heap.size + 1, 1, none⟩ = some (.int .i64 0) := by rw [(bcell hbw3).1 _ _ (by first | (simp; done) | (simp; omega) | omega)]; simp [go_sem, World.cell?_alloc_past, *]
  have fw30 : ∀ j, w3.frozen? ⟨w.heap.size, j, none⟩ = false := by intro j; rw [(bcell hbw3).2 _ _ (by first | (simp; done) | (simp; omega) | omega)]; simp [go_sem, *]
  have fw31 : ∀ j, w3.frozen? ⟨w.heap.size + 1, j, none⟩ = false := by intro j; rw [(bcell hbw3).2 _ _ (by first | (simp; done) | (simp; omega) | omega)]; simp [go_sem, *]
  have hBw3 : Below w.heap.size w w3 := (by (repeat (first | (with_reducible refine Below.drew ?_) | (with_reducible refine below_drewN ?_ _) | (with_reducible refine Below.alloc ?_ (by first | omega | (simp; done) | (simp; omega) | (simp at *; omega)) _) | (with_reducible refine Below.setCell ?_ (by first | omega | (simp; done) | (simp; omega) | (simp at *; omega)) _) | (with_reducible exact Below.refl _ _) | (with_reducible assumption) | (with_reducible refine Below.trans ?_ (Below.mono (by assumption) (by first | omega | (simp; done) | (simp; omega) | (simp at *; omega)))))))
  have ow30 : w.heap.size < w3.heap.size := by omega
  have nw30 : w3.heap.size ≠ w.heap.size := by omega
  have mw30 : ¬ w.heap.size = w3.heap.size := by omega
  have tw30 : w.heap.size < w3.heap.size + 1 := by omega
  have ow31 : w.heap.size + 1 < w3.heap.size := by omega
  have nw31 : w3.heap.size ≠ w.heap.size + 1 := by omega
  have mw31 : ¬ w.heap.size + 1 = w3.heap.size := by omega
  have tw31 : w.heap.size + 1 < w3.heap.size + 1 := by omega
  clear hbw3
  go_wp2_with ((go_at_call 9; ((with_reducible refine (refCheckGas_n o h 0 _ hg).mono ?_)); rintro e w' ⟨rfl, rfl⟩))
  go_wp2_with fail
  refine (refFormat_is o h S _ hg.out hS).mono ?_
  rintro e w4 ⟨rfl, hbw4⟩
  have zw4 := hbw4.size
  try simp at zw4
  have cw40 : w4.cell? ⟨w.heap.size, 0, none⟩ = some (.int .i64 0) := by rw [(bcell hbw4).1 _ _ (by first | (simp; done) | (simp; omega) | omega)]; simp [go_sem, World.cell?_alloc_past, *]
  have cw41 : w4.cell? ⟨w.heap.size, 1, none⟩ = some (.int .i64 0) := by rw [(bcell hbw4).1 _ _ (by first | (simp; done) | (simp; omega) | omega)]; simp [go_sem, World.cell?_alloc_past, *]
  have cw42 : w4.cell? ⟨w.heap.size + 1, 0, none⟩ = some (.int .i64 o) := by rw [(bcell hbw4).1 _ _ (by first | (simp; done) | (simp; omega) | omega)]; simp [go_sem, World.cell?_alloc_past, *]
  have cw43 : w4.cell? ⟨w.heap.size + 1, 1, none⟩ = some (.int .i64 h) := by rw [(bcell hbw4).1 _ _ (by first | (simp; done) | (simp; omega) | omega)]; simp [go_sem, World.cell?_alloc_past, *]
  have fw40 : ∀ j, w4.frozen? ⟨w.heap.size, j, none⟩ = false := by intro j; rw [(bcell hbw4).2 _ _ (by first | (simp; done) | (simp; omega) | omega)]; simp [go_sem, *]
  have fw41 : ∀ j, w4.frozen? ⟨w.heap.size + 1, j, none⟩ = false := by intro j; rw [(bcell hbw4).2 _ _ (by first | (simp; done) | (simp; omega) | omega)]; simp [go_sem, *]
  have hBw4 : Below w.heap.size w w4 := (by (repeat (first | (with_reducible refine Below.drew ?_) | (with_reducible refine below_drewN ?_ _) | (with_reducible refine Below.alloc ?_ (by first | omega | (simp; done) | (simp; omega) | (simp at *; omega)) _) | (with_reducible refine Below.setCell ?_ (by first | omega | (simp; done) | (simp; omega) | (simp at *; omega)) _) | (with_reducible exact Below.refl _ _) | (with_reducible assumption) | (with_reducible refine Below.trans ?_ (Below.mono (by assumption) (by first | omega | (simp; done) | (simp; omega) | (simp at *; omega)))))))
  have ow40 : w.heap.size < w4.heap.size := by omega
  have nw40 : w4.heap.size ≠ w.heap.size := by omega
  have mw40 : ¬ w.heap.size = w4.heap.size := by omega
  have tw40 : w.heap.size < w4.heap.size + 1 := by omega
  have ow41 : w.heap.size + 1 < w4.heap.size := by omega
  have nw41 : w4.heap.size ≠ w.heap.size + 1 := by omega
  have mw41 : ¬ w.heap.size + 1 = w4.heap.size := by omega
  have tw41 : w.heap.size + 1 < w4.heap.size + 1 := by omega
  clear hbw4
  go_wp2
  refine bodyPost_ret (v := .tuple #[.agg #[.int .i64 o, .int .i64 h], .int .i64 0]) (by simp [results, Tryd.results8, go_sem, *]) rfl ⟨rfl, ?_⟩
  (repeat (first | (with_reducible refine Below.drew ?_) | (with_reducible refine below_drewN ?_ _) | (with_reducible refine Below.alloc ?_ (by first | omega | (simp; done) | (simp; omega) | (simp at *; omega)) _) | (with_reducible refine Below.setCell ?_ (by first | omega | (simp; done) | (simp; omega) | (simp at *; omega)) _) | (with_reducible exact Below.refl _ _) | (with_reducible assumption) | (with_reducible refine Below.trans ?_ (Below.mono (by assumption) (by first | omega | (simp; done) | (simp; omega) | (simp at *; omega))))))
end Go.Proofs.YtpagbkbaphjmdaaDoor
