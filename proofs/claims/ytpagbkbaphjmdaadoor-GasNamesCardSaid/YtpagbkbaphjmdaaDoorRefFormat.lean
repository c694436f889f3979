/- What the specification of the text of a gas returns. -/
import Derived.Test.YtpagbkbaphjmdaaDoorBaseDec
import Derived.Test.YtpagbkbaphjmdaaDoorFormat
import Derived.Outline
namespace Go.Proofs.YtpagbkbaphjmdaaDoor
open Go.ChangeShapes Go.WideShapes Go.ChangeAt Go.RowKit
set_option linter.unusedVariables false
set_option linter.unusedSimpArgs false

theorem baseDecimal_is (n : Int) (d : List UInt8) (w : World) (h0 : 0 ≤ n) (h1 : n ≤ 1000) (hd : Hid (dec n = d)) :
    Calls Tryd.prog 24 #[.int .i64 n] w fun e w' => e = .returned (.string ⟨d.toArray⟩) ∧ Below w.heap.size w w' := by
  have h := baseDecimal_any n.toNat w (by omega)
  rw [show ((n.toNat : Nat) : Int) = n by omega] at h
  rw [← hd.out]
  exact h
set_option maxRecDepth 100000 in
set_option maxHeartbeats 2000000 in
theorem refFormat_F (o h rO : Int) (dO dH : List UInt8) (w : World) (o0 : 0 ≤ o) (o1 : o ≤ 1000) (h0 : 0 ≤ h) (h1 : h ≤ 1000) (lO : dO.length ≤ 4) (lH : dH.length ≤ 4) (hr : o % 10 = rO) (r0 : ¬ rO = 0) (m1 : ¬ o = 210) (m2 : ¬ o = 1000) (m3 : ¬ o = 0) (hz : h = 0) (hdO : Hid (dec o = dO)) (hdH : Hid (dec 0 = dH)) :
    Calls Tryd.prog 12 #[.agg #[.int .i64 o, .int .i64 h]] w fun e w' => e = .returned (.string ⟨([103, 97, 115] ++ dO ++ [47] ++ dH).toArray⟩) ∧ Below w.heap.size w w' := by
  have x1 : (rO == 0) = false := by simp; omega
  subst hz
  have t1 : o.tmod 10 = o % 10 := Int.tmod_eq_emod_of_nonneg o0
  have t2 : (0:Int).tmod 10 = (0:Int) % 10 := Int.tmod_eq_emod_of_nonneg h0
  have t3 : o.tdiv 10 = o / 10 := Int.tdiv_eq_ediv_of_nonneg o0
  have t4 : (0:Int).tdiv 10 = (0:Int) / 10 := Int.tdiv_eq_ediv_of_nonneg h0
  have s1 : ¬ 9223372036854775807 < 3 + dO.length := by omega
  have s2 : ¬ 9223372036854775807 < 3 + dO.length + 1 := by omega
  have s3 : ¬ 9223372036854775807 < 3 + dO.length + 1 + dH.length := by omega
  have s4 : ¬ 9223372036854775807 < 2 + dO.length := by omega
  have s5 : ¬ 9223372036854775807 < 2 + dO.length + 1 := by omega
  have s6 : ¬ 9223372036854775807 < 2 + dO.length + 1 + dH.length := by omega
  have wq1 : IntKind.i64.wrap (o / 10) = o / 10 := IntWalk.i64_in _ (by omega)
  have wq2 : IntKind.i64.wrap ((0:Int) / 10) = (0:Int) / 10 := IntWalk.i64_in _ (by omega)
  have wq0 : IntKind.i64.wrap 0 = 0 := by decide
  have q1 : 0 ≤ o / 10 := by omega
  have q2 : o / 10 ≤ 100 := by omega
  have q3 : 0 ≤ (0:Int) / 10 := by omega
  have q4 : (0:Int) / 10 ≤ 100 := by omega
  go_enter Tryd.func12, Tryd.ntmps12
  go_wp2
  all_goals
    go_region_held3 (fun w' => w'.cell? ⟨w.heap.size, 0, none⟩ = some (.int .i64 o) ∧ w'.cell? ⟨w.heap.size, 1, none⟩ = some (.int .i64 0)) (simp [go_sem, World.cell?_alloc_past, *]) (first | (go_at_call 24; (with_reducible refine (baseDecimal_is o dO _ (by omega) (by omega) hdO).mono ?_); rintro e wN ⟨rfl, hbwN⟩; have zN := hbwN.size; (try simp at zN); have y0 : wN.cell? ⟨w.heap.size, 0, none⟩ = some (.int .i64 o) := (by rw [(bcell hbwN).1 _ _ (by first | (simp; done) | (simp; omega) | omega)]; simp [go_sem, World.cell?_alloc_past, *]); have y1 : wN.cell? ⟨w.heap.size, 1, none⟩ = some (.int .i64 0) := (by rw [(bcell hbwN).1 _ _ (by first | (simp; done) | (simp; omega) | omega)]; simp [go_sem, World.cell?_alloc_past, *]); have hBN : Below w.heap.size w wN := (by (repeat (first | (with_reducible refine Below.drew ?_) | (with_reducible refine below_drewN ?_ _) | (with_reducible refine Below.alloc ?_ (by first | omega | (simp; done) | (simp; omega) | (simp at *; omega)) _) | (with_reducible refine Below.setCell ?_ (by first | omega | (simp; done) | (simp; omega) | (simp at *; omega)) _) | (with_reducible exact Below.refl _ _) | (with_reducible assumption) | (with_reducible refine Below.trans ?_ (Below.mono (by assumption) (by first | omega | (simp; done) | (simp; omega) | (simp at *; omega))))))); have uN : w.heap.size < wN.heap.size := (by omega)) | (go_at_call 24; (with_reducible refine (baseDecimal_is 0 dH _ (by omega) (by omega) hdH).mono ?_); rintro e wN ⟨rfl, hbwN⟩; have zN := hbwN.size; (try simp at zN); have y0 : wN.cell? ⟨w.heap.size, 0, none⟩ = some (.int .i64 o) := (by rw [(bcell hbwN).1 _ _ (by first | (simp; done) | (simp; omega) | omega)]; simp [go_sem, World.cell?_alloc_past, *]); have y1 : wN.cell? ⟨w.heap.size, 1, none⟩ = some (.int .i64 0) := (by rw [(bcell hbwN).1 _ _ (by first | (simp; done) | (simp; omega) | omega)]; simp [go_sem, World.cell?_alloc_past, *]); have hBN : Below w.heap.size w wN := (by (repeat (first | (with_reducible refine Below.drew ?_) | (with_reducible refine below_drewN ?_ _) | (with_reducible refine Below.alloc ?_ (by first | omega | (simp; done) | (simp; omega) | (simp at *; omega)) _) | (with_reducible refine Below.setCell ?_ (by first | omega | (simp; done) | (simp; omega) | (simp at *; omega)) _) | (with_reducible exact Below.refl _ _) | (with_reducible assumption) | (with_reducible refine Below.trans ?_ (Below.mono (by assumption) (by first | omega | (simp; done) | (simp; omega) | (simp at *; omega))))))); have uN : w.heap.size < wN.heap.size := (by omega)))
    go_wp2
    go_ret
    exact ⟨by first | rfl | (simp; done) | (simp [bapp]; done), (by (repeat (first | (with_reducible refine Below.drew ?_) | (with_reducible refine below_drewN ?_ _) | (with_reducible refine Below.alloc ?_ (by first | omega | (simp; done) | (simp; omega) | (simp at *; omega)) _) | (with_reducible refine Below.setCell ?_ (by first | omega | (simp; done) | (simp; omega) | (simp at *; omega)) _) | (with_reducible exact Below.refl _ _) | (with_reducible assumption) | (with_reducible refine Below.trans ?_ (Below.mono (by assumption) (by first | omega | (simp; done) | (simp; omega) | (simp at *; omega)))))))⟩
set_option maxRecDepth 100000 in
set_option maxHeartbeats 2000000 in
theorem refFormat_A (o h rO : Int) (dO dH : List UInt8) (w : World) (o0 : 0 ≤ o) (o1 : o ≤ 1000) (h0 : 0 ≤ h) (h1 : h ≤ 1000) (lO : dO.length ≤ 4) (lH : dH.length ≤ 4) (hr : o % 10 = rO) (r0 : ¬ rO = 0) (m1 : ¬ o = 210) (m2 : ¬ o = 1000) (m3 : ¬ o = 0) (hz : ¬ h = 0) (hdO : Hid (dec o = dO)) (hdH : Hid (dec h = dH)) :
    Calls Tryd.prog 12 #[.agg #[.int .i64 o, .int .i64 h]] w fun e w' => e = .returned (.string ⟨([103, 97, 115] ++ dO ++ [47] ++ dH).toArray⟩) ∧ Below w.heap.size w w' := by
  have x1 : (rO == 0) = false := by simp; omega
  have x2 : (h == 0) = false := by simp; omega
  have t1 : o.tmod 10 = o % 10 := Int.tmod_eq_emod_of_nonneg o0
  have t2 : h.tmod 10 = h % 10 := Int.tmod_eq_emod_of_nonneg h0
  have t3 : o.tdiv 10 = o / 10 := Int.tdiv_eq_ediv_of_nonneg o0
  have t4 : h.tdiv 10 = h / 10 := Int.tdiv_eq_ediv_of_nonneg h0
  have s1 : ¬ 9223372036854775807 < 3 + dO.length := by omega
  have s2 : ¬ 9223372036854775807 < 3 + dO.length + 1 := by omega
  have s3 : ¬ 9223372036854775807 < 3 + dO.length + 1 + dH.length := by omega
  have s4 : ¬ 9223372036854775807 < 2 + dO.length := by omega
  have s5 : ¬ 9223372036854775807 < 2 + dO.length + 1 := by omega
  have s6 : ¬ 9223372036854775807 < 2 + dO.length + 1 + dH.length := by omega
  have wq1 : IntKind.i64.wrap (o / 10) = o / 10 := IntWalk.i64_in _ (by omega)
  have wq2 : IntKind.i64.wrap (h / 10) = h / 10 := IntWalk.i64_in _ (by omega)
  have wq0 : IntKind.i64.wrap 0 = 0 := by decide
  have q1 : 0 ≤ o / 10 := by omega
  have q2 : o / 10 ≤ 100 := by omega
  have q3 : 0 ≤ h / 10 := by omega
  have q4 : h / 10 ≤ 100 := by omega
  go_enter Tryd.func12, Tryd.ntmps12
  go_wp2
  all_goals
    go_region_held3 (fun w' => w'.cell? ⟨w.heap.size, 0, none⟩ = some (.int .i64 o) ∧ w'.cell? ⟨w.heap.size, 1, none⟩ = some (.int .i64 h)) (simp [go_sem, World.cell?_alloc_past, *]) (first | (go_at_call 24; (with_reducible refine (baseDecimal_is o dO _ (by omega) (by omega) hdO).mono ?_); rintro e wN ⟨rfl, hbwN⟩; have zN := hbwN.size; (try simp at zN); have y0 : wN.cell? ⟨w.heap.size, 0, none⟩ = some (.int .i64 o) := (by rw [(bcell hbwN).1 _ _ (by first | (simp; done) | (simp; omega) | omega)]; simp [go_sem, World.cell?_alloc_past, *]); have y1 : wN.cell? ⟨w.heap.size, 1, none⟩ = some (.int .i64 h) := (by rw [(bcell hbwN).1 _ _ (by first | (simp; done) | (simp; omega) | omega)]; simp [go_sem, World.cell?_alloc_past, *]); have hBN : Below w.heap.size w wN := (by (repeat (first | (with_reducible refine Below.drew ?_) | (with_reducible refine below_drewN ?_ _) | (with_reducible refine Below.alloc ?_ (by first | omega | (simp; done) | (simp; omega) | (simp at *; omega)) _) | (with_reducible refine Below.setCell ?_ (by first | omega | (simp; done) | (simp; omega) | (simp at *; omega)) _) | (with_reducible exact Below.refl _ _) | (with_reducible assumption) | (with_reducible refine Below.trans ?_ (Below.mono (by assumption) (by first | omega | (simp; done) | (simp; omega) | (simp at *; omega))))))); have uN : w.heap.size < wN.heap.size := (by omega)) | (go_at_call 24; (with_reducible refine (baseDecimal_is h dH _ (by omega) (by omega) hdH).mono ?_); rintro e wN ⟨rfl, hbwN⟩; have zN := hbwN.size; (try simp at zN); have y0 : wN.cell? ⟨w.heap.size, 0, none⟩ = some (.int .i64 o) := (by rw [(bcell hbwN).1 _ _ (by first | (simp; done) | (simp; omega) | omega)]; simp [go_sem, World.cell?_alloc_past, *]); have y1 : wN.cell? ⟨w.heap.size, 1, none⟩ = some (.int .i64 h) := (by rw [(bcell hbwN).1 _ _ (by first | (simp; done) | (simp; omega) | omega)]; simp [go_sem, World.cell?_alloc_past, *]); have hBN : Below w.heap.size w wN := (by (repeat (first | (with_reducible refine Below.drew ?_) | (with_reducible refine below_drewN ?_ _) | (with_reducible refine Below.alloc ?_ (by first | omega | (simp; done) | (simp; omega) | (simp at *; omega)) _) | (with_reducible refine Below.setCell ?_ (by first | omega | (simp; done) | (simp; omega) | (simp at *; omega)) _) | (with_reducible exact Below.refl _ _) | (with_reducible assumption) | (with_reducible refine Below.trans ?_ (Below.mono (by assumption) (by first | omega | (simp; done) | (simp; omega) | (simp at *; omega))))))); have uN : w.heap.size < wN.heap.size := (by omega)))
    go_wp2
    go_ret
    exact ⟨by first | rfl | (simp; done) | (simp [bapp]; done), (by (repeat (first | (with_reducible refine Below.drew ?_) | (with_reducible refine below_drewN ?_ _) | (with_reducible refine Below.alloc ?_ (by first | omega | (simp; done) | (simp; omega) | (simp at *; omega)) _) | (with_reducible refine Below.setCell ?_ (by first | omega | (simp; done) | (simp; omega) | (simp at *; omega)) _) | (with_reducible exact Below.refl _ _) | (with_reducible assumption) | (with_reducible refine Below.trans ?_ (Below.mono (by assumption) (by first | omega | (simp; done) | (simp; omega) | (simp at *; omega)))))))⟩
set_option maxRecDepth 100000 in
set_option maxHeartbeats 2000000 in
theorem refFormat_B (o h rO : Int) (dO dH : List UInt8) (w : World) (o0 : 0 ≤ o) (o1 : o ≤ 1000) (h0 : 0 ≤ h) (h1 : h ≤ 1000) (lO : dO.length ≤ 4) (lH : dH.length ≤ 4) (hr : o % 10 = 0) (hq : h % 10 = rO) (r0 : ¬ rO = 0) (m1 : ¬ h = 0) (m2 : ¬ h = 1000) (hdO : Hid (dec o = dO)) (hdH : Hid (dec h = dH)) :
    Calls Tryd.prog 12 #[.agg #[.int .i64 o, .int .i64 h]] w fun e w' => e = .returned (.string ⟨([103, 97, 115] ++ dO ++ [47] ++ dH).toArray⟩) ∧ Below w.heap.size w w' := by
  have x1 : (rO == 0) = false := by simp; omega
  have x2 : (h == 0) = false := by simp; omega
  have t1 : o.tmod 10 = o % 10 := Int.tmod_eq_emod_of_nonneg o0
  have t2 : h.tmod 10 = h % 10 := Int.tmod_eq_emod_of_nonneg h0
  have t3 : o.tdiv 10 = o / 10 := Int.tdiv_eq_ediv_of_nonneg o0
  have t4 : h.tdiv 10 = h / 10 := Int.tdiv_eq_ediv_of_nonneg h0
  have s1 : ¬ 9223372036854775807 < 3 + dO.length := by omega
  have s2 : ¬ 9223372036854775807 < 3 + dO.length + 1 := by omega
  have s3 : ¬ 9223372036854775807 < 3 + dO.length + 1 + dH.length := by omega
  have s4 : ¬ 9223372036854775807 < 2 + dO.length := by omega
  have s5 : ¬ 9223372036854775807 < 2 + dO.length + 1 := by omega
  have s6 : ¬ 9223372036854775807 < 2 + dO.length + 1 + dH.length := by omega
  have wq1 : IntKind.i64.wrap (o / 10) = o / 10 := IntWalk.i64_in _ (by omega)
  have wq2 : IntKind.i64.wrap (h / 10) = h / 10 := IntWalk.i64_in _ (by omega)
  have wq0 : IntKind.i64.wrap 0 = 0 := by decide
  have q1 : 0 ≤ o / 10 := by omega
  have q2 : o / 10 ≤ 100 := by omega
  have q3 : 0 ≤ h / 10 := by omega
  have q4 : h / 10 ≤ 100 := by omega
  go_enter Tryd.func12, Tryd.ntmps12
  go_wp2
  all_goals
    go_region_held3 (fun w' => w'.cell? ⟨w.heap.size, 0, none⟩ = some (.int .i64 o) ∧ w'.cell? ⟨w.heap.size, 1, none⟩ = some (.int .i64 h)) (simp [go_sem, World.cell?_alloc_past, *]) (first | (go_at_call 24; (with_reducible refine (baseDecimal_is o dO _ (by omega) (by omega) hdO).mono ?_); rintro e wN ⟨rfl, hbwN⟩; have zN := hbwN.size; (try simp at zN); have y0 : wN.cell? ⟨w.heap.size, 0, none⟩ = some (.int .i64 o) := (by rw [(bcell hbwN).1 _ _ (by first | (simp; done) | (simp; omega) | omega)]; simp [go_sem, World.cell?_alloc_past, *]); have y1 : wN.cell? ⟨w.heap.size, 1, none⟩ = some (.int .i64 h) := (by rw [(bcell hbwN).1 _ _ (by first | (simp; done) | (simp; omega) | omega)]; simp [go_sem, World.cell?_alloc_past, *]); have hBN : Below w.heap.size w wN := (by (repeat (first | (with_reducible refine Below.drew ?_) | (with_reducible refine below_drewN ?_ _) | (with_reducible refine Below.alloc ?_ (by first | omega | (simp; done) | (simp; omega) | (simp at *; omega)) _) | (with_reducible refine Below.setCell ?_ (by first | omega | (simp; done) | (simp; omega) | (simp at *; omega)) _) | (with_reducible exact Below.refl _ _) | (with_reducible assumption) | (with_reducible refine Below.trans ?_ (Below.mono (by assumption) (by first | omega | (simp; done) | (simp; omega) | (simp at *; omega))))))); have uN : w.heap.size < wN.heap.size := (by omega)) | (go_at_call 24; (with_reducible refine (baseDecimal_is h dH _ (by omega) (by omega) hdH).mono ?_); rintro e wN ⟨rfl, hbwN⟩; have zN := hbwN.size; (try simp at zN); have y0 : wN.cell? ⟨w.heap.size, 0, none⟩ = some (.int .i64 o) := (by rw [(bcell hbwN).1 _ _ (by first | (simp; done) | (simp; omega) | omega)]; simp [go_sem, World.cell?_alloc_past, *]); have y1 : wN.cell? ⟨w.heap.size, 1, none⟩ = some (.int .i64 h) := (by rw [(bcell hbwN).1 _ _ (by first | (simp; done) | (simp; omega) | omega)]; simp [go_sem, World.cell?_alloc_past, *]); have hBN : Below w.heap.size w wN := (by (repeat (first | (with_reducible refine Below.drew ?_) | (with_reducible refine below_drewN ?_ _) | (with_reducible refine Below.alloc ?_ (by first | omega | (simp; done) | (simp; omega) | (simp at *; omega)) _) | (with_reducible refine Below.setCell ?_ (by first | omega | (simp; done) | (simp; omega) | (simp at *; omega)) _) | (with_reducible exact Below.refl _ _) | (with_reducible assumption) | (with_reducible refine Below.trans ?_ (Below.mono (by assumption) (by first | omega | (simp; done) | (simp; omega) | (simp at *; omega))))))); have uN : w.heap.size < wN.heap.size := (by omega)))
    go_wp2
    go_ret
    exact ⟨by first | rfl | (simp; done) | (simp [bapp]; done), (by (repeat (first | (with_reducible refine Below.drew ?_) | (with_reducible refine below_drewN ?_ _) | (with_reducible refine Below.alloc ?_ (by first | omega | (simp; done) | (simp; omega) | (simp at *; omega)) _) | (with_reducible refine Below.setCell ?_ (by first | omega | (simp; done) | (simp; omega) | (simp at *; omega)) _) | (with_reducible exact Below.refl _ _) | (with_reducible assumption) | (with_reducible refine Below.trans ?_ (Below.mono (by assumption) (by first | omega | (simp; done) | (simp; omega) | (simp at *; omega)))))))⟩
set_option maxRecDepth 100000 in
set_option maxHeartbeats 2000000 in
theorem refFormat_C (o h rO : Int) (dO dH : List UInt8) (w : World) (o0 : 0 ≤ o) (o1 : o ≤ 1000) (h0 : 0 ≤ h) (h1 : h ≤ 1000) (lO : dO.length ≤ 4) (lH : dH.length ≤ 4) (hr : o % 10 = 0) (m1 : ¬ o = 210) (m2 : ¬ o = 1000) (hz : h = 0) (hdO : Hid (dec (o / 10) = dO)) :
    Calls Tryd.prog 12 #[.agg #[.int .i64 o, .int .i64 h]] w fun e w' => e = .returned (.string ⟨([110, 120] ++ dO).toArray⟩) ∧ Below w.heap.size w w' := by
  subst hz
  have t1 : o.tmod 10 = o % 10 := Int.tmod_eq_emod_of_nonneg o0
  have t2 : (0:Int).tmod 10 = (0:Int) % 10 := Int.tmod_eq_emod_of_nonneg h0
  have t3 : o.tdiv 10 = o / 10 := Int.tdiv_eq_ediv_of_nonneg o0
  have t4 : (0:Int).tdiv 10 = (0:Int) / 10 := Int.tdiv_eq_ediv_of_nonneg h0
  have s1 : ¬ 9223372036854775807 < 3 + dO.length := by omega
  have s2 : ¬ 9223372036854775807 < 3 + dO.length + 1 := by omega
  have s3 : ¬ 9223372036854775807 < 3 + dO.length + 1 + dH.length := by omega
  have s4 : ¬ 9223372036854775807 < 2 + dO.length := by omega
  have s5 : ¬ 9223372036854775807 < 2 + dO.length + 1 := by omega
  have s6 : ¬ 9223372036854775807 < 2 + dO.length + 1 + dH.length := by omega
  have wq1 : IntKind.i64.wrap (o / 10) = o / 10 := IntWalk.i64_in _ (by omega)
  have wq2 : IntKind.i64.wrap ((0:Int) / 10) = (0:Int) / 10 := IntWalk.i64_in _ (by omega)
  have wq0 : IntKind.i64.wrap 0 = 0 := by decide
  have q1 : 0 ≤ o / 10 := by omega
  have q2 : o / 10 ≤ 100 := by omega
  have q3 : 0 ≤ (0:Int) / 10 := by omega
  have q4 : (0:Int) / 10 ≤ 100 := by omega
  go_enter Tryd.func12, Tryd.ntmps12
  go_wp2_with ((go_at_call 24; (with_reducible refine (baseDecimal_is (o / 10) dO _ (by omega) (by omega) hdO).mono ?_); rintro e wN ⟨rfl, hbwN⟩; have zN := hbwN.size; (try simp at zN); have y0 : wN.cell? ⟨w.heap.size, 0, none⟩ = some (.int .i64 o) := (by rw [(bcell hbwN).1 _ _ (by first | (simp; done) | (simp; omega) | omega)]; simp [go_sem, World.cell?_alloc_past, *]); have y1 : wN.cell? ⟨w.heap.size, 1, none⟩ = some (.int .i64 0) := (by rw [(bcell hbwN).1 _ _ (by first | (simp; done) | (simp; omega) | omega)]; simp [go_sem, World.cell?_alloc_past, *]); have hBN : Below w.heap.size w wN := (by (repeat (first | (with_reducible refine Below.drew ?_) | (with_reducible refine below_drewN ?_ _) | (with_reducible refine Below.alloc ?_ (by first | omega | (simp; done) | (simp; omega) | (simp at *; omega)) _) | (with_reducible refine Below.setCell ?_ (by first | omega | (simp; done) | (simp; omega) | (simp at *; omega)) _) | (with_reducible exact Below.refl _ _) | (with_reducible assumption) | (with_reducible refine Below.trans ?_ (Below.mono (by assumption) (by first | omega | (simp; done) | (simp; omega) | (simp at *; omega))))))); have uN : w.heap.size < wN.heap.size := (by omega)))
  go_ret
  exact ⟨by first | rfl | (simp [bapp]; done), (by (repeat (first | (with_reducible refine Below.drew ?_) | (with_reducible refine below_drewN ?_ _) | (with_reducible refine Below.alloc ?_ (by first | omega | (simp; done) | (simp; omega) | (simp at *; omega)) _) | (with_reducible refine Below.setCell ?_ (by first | omega | (simp; done) | (simp; omega) | (simp at *; omega)) _) | (with_reducible exact Below.refl _ _) | (with_reducible assumption) | (with_reducible refine Below.trans ?_ (Below.mono (by assumption) (by first | omega | (simp; done) | (simp; omega) | (simp at *; omega)))))))⟩
set_option maxRecDepth 100000 in
set_option maxHeartbeats 2000000 in
theorem refFormat_D (o h rO : Int) (dO dH : List UInt8) (w : World) (o0 : 0 ≤ o) (o1 : o ≤ 1000) (h0 : 0 ≤ h) (h1 : h ≤ 1000) (lO : dO.length ≤ 4) (lH : dH.length ≤ 4) (hr : o % 10 = 0) (hq : h % 10 = 0) (hz : ¬ h = 0) (m1 : ¬ o = 0) (hdO : Hid (dec (o / 10) = dO)) (hdH : Hid (dec (h / 10) = dH)) :
    Calls Tryd.prog 12 #[.agg #[.int .i64 o, .int .i64 h]] w fun e w' => e = .returned (.string ⟨([116, 120] ++ dO ++ [47] ++ dH).toArray⟩) ∧ Below w.heap.size w w' := by
  have x2 : (h == 0) = false := by simp; omega
  have t1 : o.tmod 10 = o % 10 := Int.tmod_eq_emod_of_nonneg o0
  have t2 : h.tmod 10 = h % 10 := Int.tmod_eq_emod_of_nonneg h0
  have t3 : o.tdiv 10 = o / 10 := Int.tdiv_eq_ediv_of_nonneg o0
  have t4 : h.tdiv 10 = h / 10 := Int.tdiv_eq_ediv_of_nonneg h0
  have s1 : ¬ 9223372036854775807 < 3 + dO.length := by omega
  have s2 : ¬ 9223372036854775807 < 3 + dO.length + 1 := by omega
  have s3 : ¬ 9223372036854775807 < 3 + dO.length + 1 + dH.length := by omega
  have s4 : ¬ 9223372036854775807 < 2 + dO.length := by omega
  have s5 : ¬ 9223372036854775807 < 2 + dO.length + 1 := by omega
  have s6 : ¬ 9223372036854775807 < 2 + dO.length + 1 + dH.length := by omega
  have wq1 : IntKind.i64.wrap (o / 10) = o / 10 := IntWalk.i64_in _ (by omega)
  have wq2 : IntKind.i64.wrap (h / 10) = h / 10 := IntWalk.i64_in _ (by omega)
  have wq0 : IntKind.i64.wrap 0 = 0 := by decide
  have q1 : 0 ≤ o / 10 := by omega
  have q2 : o / 10 ≤ 100 := by omega
  have q3 : 0 ≤ h / 10 := by omega
  have q4 : h / 10 ≤ 100 := by omega
  go_enter Tryd.func12, Tryd.ntmps12
  go_wp2
  all_goals
    go_region_held3 (fun w' => w'.cell? ⟨w.heap.size, 0, none⟩ = some (.int .i64 o) ∧ w'.cell? ⟨w.heap.size, 1, none⟩ = some (.int .i64 h)) (simp [go_sem, World.cell?_alloc_past, *]) (first | (go_at_call 24; (with_reducible refine (baseDecimal_is (o / 10) dO _ (by omega) (by omega) hdO).mono ?_); rintro e wN ⟨rfl, hbwN⟩; have zN := hbwN.size; (try simp at zN); have y0 : wN.cell? ⟨w.heap.size, 0, none⟩ = some (.int .i64 o) := (by rw [(bcell hbwN).1 _ _ (by first | (simp; done) | (simp; omega) | omega)]; simp [go_sem, World.cell?_alloc_past, *]); have y1 : wN.cell? ⟨w.heap.size, 1, none⟩ = some (.int .i64 h) := (by rw [(bcell hbwN).1 _ _ (by first | (simp; done) | (simp; omega) | omega)]; simp [go_sem, World.cell?_alloc_past, *]); have hBN : Below w.heap.size w wN := (by (repeat (first | (with_reducible refine Below.drew ?_) | (with_reducible refine below_drewN ?_ _) | (with_reducible refine Below.alloc ?_ (by first | omega | (simp; done) | (simp; omega) | (simp at *; omega)) _) | (with_reducible refine Below.setCell ?_ (by first | omega | (simp; done) | (simp; omega) | (simp at *; omega)) _) | (with_reducible exact Below.refl _ _) | (with_reducible assumption) | (with_reducible refine Below.trans ?_ (Below.mono (by assumption) (by first | omega | (simp; done) | (simp; omega) | (simp at *; omega))))))); have uN : w.heap.size < wN.heap.size := (by omega)) | (go_at_call 24; (with_reducible refine (baseDecimal_is (h / 10) dH _ (by omega) (by omega) hdH).mono ?_); rintro e wN ⟨rfl, hbwN⟩; have zN := hbwN.size; (try simp at zN); have y0 : wN.cell? ⟨w.heap.size, 0, none⟩ = some (.int .i64 o) := (by rw [(bcell hbwN).1 _ _ (by first | (simp; done) | (simp; omega) | omega)]; simp [go_sem, World.cell?_alloc_past, *]); have y1 : wN.cell? ⟨w.heap.size, 1, none⟩ = some (.int .i64 h) := (by rw [(bcell hbwN).1 _ _ (by first | (simp; done) | (simp; omega) | omega)]; simp [go_sem, World.cell?_alloc_past, *]); have hBN : Below w.heap.size w wN := (by (repeat (first | (with_reducible refine Below.drew ?_) | (with_reducible refine below_drewN ?_ _) | (with_reducible refine Below.alloc ?_ (by first | omega | (simp; done) | (simp; omega) | (simp at *; omega)) _) | (with_reducible refine Below.setCell ?_ (by first | omega | (simp; done) | (simp; omega) | (simp at *; omega)) _) | (with_reducible exact Below.refl _ _) | (with_reducible assumption) | (with_reducible refine Below.trans ?_ (Below.mono (by assumption) (by first | omega | (simp; done) | (simp; omega) | (simp at *; omega))))))); have uN : w.heap.size < wN.heap.size := (by omega)))
    go_wp2
    go_ret
    exact ⟨by first | rfl | (simp; done) | (simp [bapp]; done), (by (repeat (first | (with_reducible refine Below.drew ?_) | (with_reducible refine below_drewN ?_ _) | (with_reducible refine Below.alloc ?_ (by first | omega | (simp; done) | (simp; omega) | (simp at *; omega)) _) | (with_reducible refine Below.setCell ?_ (by first | omega | (simp; done) | (simp; omega) | (simp at *; omega)) _) | (with_reducible exact Below.refl _ _) | (with_reducible assumption) | (with_reducible refine Below.trans ?_ (Below.mono (by assumption) (by first | omega | (simp; done) | (simp; omega) | (simp at *; omega)))))))⟩
set_option maxRecDepth 100000 in
set_option maxHeartbeats 2000000 in
theorem refFormat_E (o h rO : Int) (dO dH : List UInt8) (w : World) (o0 : 0 ≤ o) (o1 : o ≤ 1000) (h0 : 0 ≤ h) (h1 : h ≤ 1000) (lO : dO.length ≤ 4) (lH : dH.length ≤ 4) (hr : o = 0) (hq : h % 10 = 0) (hz : ¬ h = 0) (m2 : ¬ h = 1000) (hdO : Hid (dec 0 = dO)) (hdH : Hid (dec (h / 10) = dH)) :
    Calls Tryd.prog 12 #[.agg #[.int .i64 o, .int .i64 h]] w fun e w' => e = .returned (.string ⟨([116, 120] ++ dO ++ [47] ++ dH).toArray⟩) ∧ Below w.heap.size w w' := by
  have x2 : (h == 0) = false := by simp; omega
  subst hr
  have t1 : (0:Int).tmod 10 = (0:Int) % 10 := Int.tmod_eq_emod_of_nonneg o0
  have t2 : h.tmod 10 = h % 10 := Int.tmod_eq_emod_of_nonneg h0
  have t3 : (0:Int).tdiv 10 = (0:Int) / 10 := Int.tdiv_eq_ediv_of_nonneg o0
  have t4 : h.tdiv 10 = h / 10 := Int.tdiv_eq_ediv_of_nonneg h0
  have s1 : ¬ 9223372036854775807 < 3 + dO.length := by omega
  have s2 : ¬ 9223372036854775807 < 3 + dO.length + 1 := by omega
  have s3 : ¬ 9223372036854775807 < 3 + dO.length + 1 + dH.length := by omega
  have s4 : ¬ 9223372036854775807 < 2 + dO.length := by omega
  have s5 : ¬ 9223372036854775807 < 2 + dO.length + 1 := by omega
  have s6 : ¬ 9223372036854775807 < 2 + dO.length + 1 + dH.length := by omega
  have wq1 : IntKind.i64.wrap ((0:Int) / 10) = (0:Int) / 10 := IntWalk.i64_in _ (by omega)
  have wq2 : IntKind.i64.wrap (h / 10) = h / 10 := IntWalk.i64_in _ (by omega)
  have wq0 : IntKind.i64.wrap 0 = 0 := by decide
  have q1 : 0 ≤ (0:Int) / 10 := by omega
  have q2 : (0:Int) / 10 ≤ 100 := by omega
  have q3 : 0 ≤ h / 10 := by omega
  have q4 : h / 10 ≤ 100 := by omega
  go_enter Tryd.func12, Tryd.ntmps12
  go_wp2
  all_goals
    go_region_held3 (fun w' => w'.cell? ⟨w.heap.size, 0, none⟩ = some (.int .i64 0) ∧ w'.cell? ⟨w.heap.size, 1, none⟩ = some (.int .i64 h)) (simp [go_sem, World.cell?_alloc_past, *]) (first | (go_at_call 24; (with_reducible refine (baseDecimal_is 0 dO _ (by omega) (by omega) hdO).mono ?_); rintro e wN ⟨rfl, hbwN⟩; have zN := hbwN.size; (try simp at zN); have y0 : wN.cell? ⟨w.heap.size, 0, none⟩ = some (.int .i64 0) := (by rw [(bcell hbwN).1 _ _ (by first | (simp; done) | (simp; omega) | omega)]; simp [go_sem, World.cell?_alloc_past, *]); have y1 : wN.cell? ⟨w.heap.size, 1, none⟩ = some (.int .i64 h) := (by rw [(bcell hbwN).1 _ _ (by first | (simp; done) | (simp; omega) | omega)]; simp [go_sem, World.cell?_alloc_past, *]); have hBN : Below w.heap.size w wN := (by (repeat (first | (with_reducible refine Below.drew ?_) | (with_reducible refine below_drewN ?_ _) | (with_reducible refine Below.alloc ?_ (by first | omega | (simp; done) | (simp; omega) | (simp at *; omega)) _) | (with_reducible refine Below.setCell ?_ (by first | omega | (simp; done) | (simp; omega) | (simp at *; omega)) _) | (with_reducible exact Below.refl _ _) | (with_reducible assumption) | (with_reducible refine Below.trans ?_ (Below.mono (by assumption) (by first | omega | (simp; done) | (simp; omega) | (simp at *; omega))))))); have uN : w.heap.size < wN.heap.size := (by omega)) | (go_at_call 24; (with_reducible refine (baseDecimal_is (h / 10) dH _ (by omega) (by omega) hdH).mono ?_); rintro e wN ⟨rfl, hbwN⟩; have zN := hbwN.size; (try simp at zN); have y0 : wN.cell? ⟨w.heap.size, 0, none⟩ = some (.int .i64 0) := (by rw [(bcell hbwN).1 _ _ (by first | (simp; done) | (simp; omega) | omega)]; simp [go_sem, World.cell?_alloc_past, *]); have y1 : wN.cell? ⟨w.heap.size, 1, none⟩ = some (.int .i64 h) := (by rw [(bcell hbwN).1 _ _ (by first | (simp; done) | (simp; omega) | omega)]; simp [go_sem, World.cell?_alloc_past, *]); have hBN : Below w.heap.size w wN := (by (repeat (first | (with_reducible refine Below.drew ?_) | (with_reducible refine below_drewN ?_ _) | (with_reducible refine Below.alloc ?_ (by first | omega | (simp; done) | (simp; omega) | (simp at *; omega)) _) | (with_reducible refine Below.setCell ?_ (by first | omega | (simp; done) | (simp; omega) | (simp at *; omega)) _) | (with_reducible exact Below.refl _ _) | (with_reducible assumption) | (with_reducible refine Below.trans ?_ (Below.mono (by assumption) (by first | omega | (simp; done) | (simp; omega) | (simp at *; omega))))))); have uN : w.heap.size < wN.heap.size := (by omega)))
    go_wp2
    go_ret
    exact ⟨by first | rfl | (simp; done) | (simp [bapp]; done), (by (repeat (first | (with_reducible refine Below.drew ?_) | (with_reducible refine below_drewN ?_ _) | (with_reducible refine Below.alloc ?_ (by first | omega | (simp; done) | (simp; omega) | (simp at *; omega)) _) | (with_reducible refine Below.setCell ?_ (by first | omega | (simp; done) | (simp; omega) | (simp at *; omega)) _) | (with_reducible exact Below.refl _ _) | (with_reducible assumption) | (with_reducible refine Below.trans ?_ (Below.mono (by assumption) (by first | omega | (simp; done) | (simp; omega) | (simp at *; omega)))))))⟩
theorem refFormat_eAir (w : World) :
    Calls Tryd.prog 12 #[.agg #[.int .i64 210, .int .i64 0]] w fun e w' => e = .returned (.string ⟨([97, 105, 114] : List UInt8).toArray⟩) ∧ Below w.heap.size w w' := by
  go_enter Tryd.func12, Tryd.ntmps12
  go_wp2
  go_ret
  exact ⟨by rfl, (by (repeat (first | (with_reducible refine Below.drew ?_) | (with_reducible refine below_drewN ?_ _) | (with_reducible refine Below.alloc ?_ (by first | omega | (simp; done) | (simp; omega) | (simp at *; omega)) _) | (with_reducible refine Below.setCell ?_ (by first | omega | (simp; done) | (simp; omega) | (simp at *; omega)) _) | (with_reducible exact Below.refl _ _) | (with_reducible assumption) | (with_reducible refine Below.trans ?_ (Below.mono (by assumption) (by first | omega | (simp; done) | (simp; omega) | (simp at *; omega)))))))⟩
theorem refFormat_eOxy (w : World) :
    Calls Tryd.prog 12 #[.agg #[.int .i64 1000, .int .i64 0]] w fun e w' => e = .returned (.string ⟨([111, 120, 121, 103, 101, 110] : List UInt8).toArray⟩) ∧ Below w.heap.size w w' := by
  go_enter Tryd.func12, Tryd.ntmps12
  go_wp2
  go_ret
  exact ⟨by rfl, (by (repeat (first | (with_reducible refine Below.drew ?_) | (with_reducible refine below_drewN ?_ _) | (with_reducible refine Below.alloc ?_ (by first | omega | (simp; done) | (simp; omega) | (simp at *; omega)) _) | (with_reducible refine Below.setCell ?_ (by first | omega | (simp; done) | (simp; omega) | (simp at *; omega)) _) | (with_reducible exact Below.refl _ _) | (with_reducible assumption) | (with_reducible refine Below.trans ?_ (Below.mono (by assumption) (by first | omega | (simp; done) | (simp; omega) | (simp at *; omega)))))))⟩
theorem refFormat_eHel (w : World) :
    Calls Tryd.prog 12 #[.agg #[.int .i64 0, .int .i64 1000]] w fun e w' => e = .returned (.string ⟨([104, 101, 108, 105, 117, 109] : List UInt8).toArray⟩) ∧ Below w.heap.size w w' := by
  go_enter Tryd.func12, Tryd.ntmps12
  go_wp2
  go_ret
  exact ⟨by rfl, (by (repeat (first | (with_reducible refine Below.drew ?_) | (with_reducible refine below_drewN ?_ _) | (with_reducible refine Below.alloc ?_ (by first | omega | (simp; done) | (simp; omega) | (simp at *; omega)) _) | (with_reducible refine Below.setCell ?_ (by first | omega | (simp; done) | (simp; omega) | (simp at *; omega)) _) | (with_reducible exact Below.refl _ _) | (with_reducible assumption) | (with_reducible refine Below.trans ?_ (Below.mono (by assumption) (by first | omega | (simp; done) | (simp; omega) | (simp at *; omega)))))))⟩
theorem refFormat_any (o h : Int) (w : World) (hg : gasE o h = 0) :
    Calls Tryd.prog 12 #[.agg #[.int .i64 o, .int .i64 h]] w fun e w' => e = .returned (.string ⟨(fmtL o h).toArray⟩) ∧ Below w.heap.size w w' := by
  obtain ⟨o0, o1, h0, h1, hs⟩ := gasE_z hg
  have b1 := dec_ok o0 o1
  have b2 := dec_ok h0 h1
  have b3 := dec_ok (n := o / 10) (by omega) (by omega)
  have b4 := dec_ok (n := h / 10) (by omega) (by omega)
  unfold fmtL
  split
  · rename_i c; obtain ⟨rfl, rfl⟩ := c; exact refFormat_eAir w
  split
  · rename_i _ c; obtain ⟨rfl, rfl⟩ := c; exact refFormat_eOxy w
  split
  · rename_i _ _ c; obtain ⟨rfl, rfl⟩ := c; exact refFormat_eHel w
  rename_i c1 c2 c3
  split
  · rename_i c
    by_cases c4 : o % 10 = 0
    · exact refFormat_B o h (h % 10) _ _ w o0 o1 h0 h1 b1.1 b2.1 c4 rfl (by omega) (by omega) (by omega) rfl rfl
    · by_cases c7 : h = 0
      · exact refFormat_F o h (o % 10) (dec o) (dec h) w o0 o1 h0 h1 b1.1 b2.1 rfl c4 (by omega) (by omega) (by omega) c7 rfl (by subst c7; rfl)
      · exact refFormat_A o h (o % 10) _ _ w o0 o1 h0 h1 b1.1 b2.1 rfl c4 (by omega) (by omega) (by omega) c7 rfl rfl
  rename_i c
  split
  · rename_i c5
    exact refFormat_C o h 0 _ [] w o0 o1 h0 h1 b3.1 (by simp) (by omega) (by omega) (by omega) c5 rfl
  · rename_i c5
    by_cases c6 : o = 0
    · exact refFormat_E o h 0 (dec (o / 10)) (dec (h / 10)) w o0 o1 h0 h1 b3.1 b4.1 c6 (by omega) c5 (by omega) (by subst c6; rfl) rfl
    · exact refFormat_D o h 0 _ _ w o0 o1 h0 h1 b3.1 b4.1 (by omega) (by omega) c5 c6 rfl rfl
end Go.Proofs.YtpagbkbaphjmdaaDoor
