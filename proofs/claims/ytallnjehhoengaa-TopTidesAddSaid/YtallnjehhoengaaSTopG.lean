/- TIDES ADD UP, part 2: the road on which the statement says something. -/
import Derived.Test.YtallnjehhoengaaSTopA
import Derived.Outline
namespace Go.Proofs.Ytallnjehhoengaa
open Go.ChangeShapes Go.WideShapes Go.ChangeAt Go.RowKit
set_option linter.unusedVariables false
set_option linter.unusedSimpArgs false
attribute [local go_sem ↓] Go.wp_at_zero Go.wp_at_succ
set_option maxRecDepth 100000 in
set_option maxHeartbeats 8000000 in
theorem topTides_g (ma mb t : Int) (LA LB : List Wv) (A B : Option Addr) (na nb ca cb : Nat) (w : World) (hna : Hid (na = LA.length)) (hnb : Hid (nb = LB.length)) (na1 : na ≤ 1000000) (nb1 : nb ≤ 1000000) (HRA : Hid (∀ w' : World, Below w.heap.size w w' → SlRows wvV 3 w' A LA)) (HRB : Hid (∀ w' : World, Below w.heap.size w w' → SlRows wvV 3 w' B LB)) (hfa : Hid (fewB na = true)) (hfb : Hid (fewB nb = true)) (hta : Hid (tidE ma LA = 0)) (htb : Hid (tidE mb LB = 0)) (hws : Hid (inB (ma + mb) (-100000) 100000 = true)) (hmin : Hid (inB t 0 1000000 = true)) (hca : Hid (A = none → ca = 0)) (hcb : Hid (B = none → cb = 0)) :
    Calls Try.prog 3 #[.agg #[.int .i64 ma, .slice A na ca], .agg #[.int .i64 mb, .slice B nb cb], .int .i64 t] w fun e w' => e = .returned (.bool true) ∧ Below w.heap.size w w' := by
  obtain ⟨ma0, ma1, la10, hWA0⟩ := tidE_ok hta.out
  obtain ⟨mb0, mb1, lb10, hWB0⟩ := tidE_ok htb.out
  have hWA := Lib.hid hWA0
  have na4 : na ≤ 4 := few_le hfa.out (by rw [hna.out]; exact la10)
  have nb4 : nb ≤ 4 := few_le hfb.out (by rw [hnb.out]; exact lb10)
  obtain ⟨t0, t1⟩ := inB_iff.1 hmin.out
  have tE : rngE t 0 1000000 = 0 := rngE_m t0 t1
  obtain ⟨x0, hx0⟩ : ∃ z, Hid (levLo ma LA t = z) := ⟨_, Lib.hid rfl⟩
  obtain ⟨x1, hx1⟩ : ∃ z, Hid (levHi ma LA t = z) := ⟨_, Lib.hid rfl⟩
  obtain ⟨y0, hy0⟩ : ∃ z, Hid (levLo mb LB t = z) := ⟨_, Lib.hid rfl⟩
  obtain ⟨y1, hy1⟩ : ∃ z, Hid (levHi mb LB t = z) := ⟨_, Lib.hid rfl⟩
  obtain ⟨z0, hz0⟩ : ∃ z, Hid (levLo (ma + mb) (LA ++ LB) t = z) := ⟨_, Lib.hid rfl⟩
  obtain ⟨z1, hz1⟩ : ∃ z, Hid (levHi (ma + mb) (LA ++ LB) t = z) := ⟨_, Lib.hid rfl⟩
  have la := lev_app ma mb LA LB t
  have bx := lev_bd hWA0 la10 ma0 ma1 t
  have bz := lev_bd hWB0 lb10 mb0 mb1 t
  have lt := lev_turn ma hWA0 t0
  rw [hx0.out, hx1.out, hy0.out, hy1.out, hz0.out, hz1.out] at la
  rw [hx0.out, hx1.out] at bx lt
  rw [hy0.out, hy1.out] at bz
  obtain ⟨⟨a1, a2⟩, a3, a4⟩ := la
  obtain ⟨bx1, bx2, bx3, bx4⟩ := bx
  obtain ⟨by1, by2, by3, by4⟩ := bz
  have hu0 := Lib.hid lt.1
  have hu1 := Lib.hid lt.2
  have ws := inB_iff.1 hws.out
  obtain ⟨ws1, ws2⟩ := ws
  have z10 : LA.length + LB.length ≤ 10 := by rw [← hna.out, ← hnb.out]; omega
  have hla : Hid (lvlE ma LA t = 0) := Lib.hid (by unfold lvlE; rw [hta.out, tE]; rfl)
  have hlb : Hid (lvlE mb LB t = 0) := Lib.hid (by unfold lvlE; rw [htb.out, tE]; rfl)
  have hE : Hid (lvlE (ma + mb) (LA ++ LB) t = 0) := Lib.hid (by
    unfold lvlE
    rw [tE, tidE_mk ws1 ws2 (by rw [List.length_append]; exact z10) (fun x hx => by rcases List.mem_append.1 hx with h | h; exact hWA0 x h; exact hWB0 x h)]; rfl)
  have hlo : Hid (lvlE (-ma) (LA.map turnW) t = 0) := Lib.hid (by
    unfold lvlE
    rw [tE, tidE_mk (by omega) (by omega) (by rw [List.length_map]; exact la10) (fun x hx => by obtain ⟨y, hy, rfl⟩ := List.mem_map.1 hx; exact turn_ok (hWA0 y hy))]; rfl)
  have hlen : na + nb ≤ 10 := by omega
  have i1 : IntKind.i64.wrap ((na : Int) + nb) = (na : Int) + nb := IntWalk.i64_in _ (by omega)
  have i2 : ¬ (10 : Int) < (na : Int) + nb := by omega
  have i3 : IntKind.i64.wrap (ma + mb) = ma + mb := IntWalk.i64_in _ (by omega)
  have i4 : IntKind.i64.wrap (x0 + y0) = x0 + y0 := IntWalk.i64_in _ (by omega)
  have i6 : IntKind.i64.wrap (x0 + y0 + 2) = x0 + y0 + 2 := IntWalk.i64_in _ (by omega)
  have i7 : IntKind.i64.wrap (x1 + y1) = x1 + y1 := IntWalk.i64_in _ (by omega)
  have i8 : IntKind.i64.wrap (x1 + y1 - 2) = x1 + y1 - 2 := IntWalk.i64_in _ (by omega)
  have i9 : IntKind.i64.wrap (-ma) = -ma := IntWalk.i64_in _ (by omega)
  have i10 : IntKind.i64.wrap (-x0) = -x0 := IntWalk.i64_in _ (by omega)
  have i11 : IntKind.i64.wrap (-x1) = -x1 := IntWalk.i64_in _ (by omega)
  have hv0 : Hid (inB z0 (x0 + y0) (x0 + y0 + 2) = true) := Lib.hid (inB_true a1 a2)
  have hv1 : Hid (inB z1 (x1 + y1 - 2) (x1 + y1) = true) := Lib.hid (inB_true a3 a4)
  obtain ⟨i0, hi, hzz0, hzz1, hzz2⟩ := info_partsS infoWv
  have HI := Lib.hid hi
  have HZ0 := Lib.hid hzz0
  have HZ1 := Lib.hid hzz1
  have HZ2 := Lib.hid hzz2
  have HLLA := Lib.hid (rowsV_len (f := wvV) (n := 3) (fun _ => rfl) LA)
  have HLLB := Lib.hid (rowsV_len (f := wvV) (n := 3) (fun _ => rfl) LB)
  rw [← hna.out] at HLLA
  rw [← hnb.out] at HLLB
  have CA : Hid (A = none → na = 0 ∧ ca = 0) := Lib.hid fun h => And.intro (by
    rcases HRA.out w (Below.refl _ _) with h1 | ⟨_, _, h1, _⟩
    · rw [hna.out, h1]; rfl
    · rw [h] at h1; cases h1) (hca.out h)
  have CB : Hid (B = none → nb = 0 ∧ cb = 0) := Lib.hid fun h => And.intro (by
    rcases HRB.out w (Below.refl _ _) with h1 | ⟨_, _, h1, _⟩
    · rw [hnb.out, h1]; rfl
    · rw [h] at h1; cases h1) (hcb.out h)
  clear hi hzz0 hzz1 hzz2 a1 a2 a3 a4 lt hWA0 hWB0 la10 lb10 z10 tE ws1 ws2
  go_enter Try.func3, Try.ntmps3
  go_wp2_with fail
  refine (tidal_any _).mono ?_
  rintro e xw1 ⟨rfl, hbx1⟩
  have zx1 := hbx1.size
  try simp at zx1
  obtain ⟨x1_0_0, x1_0_1, x1_1_0, x1_1_1⟩ : xw1.cell? ⟨w.heap.size, 0, none⟩ = some (.int .i64 ma) ∧ xw1.cell? ⟨w.heap.size, 1, none⟩ = some (.slice A na ca) ∧ xw1.cell? ⟨w.heap.size + 1, 0, none⟩ = some (.int .i64 mb) ∧ xw1.cell? ⟨w.heap.size + 1, 1, none⟩ = some (.slice B nb cb) := by refine ⟨?_, ?_, ?_, ?_⟩ <;> (rw [(bcell hbx1).1 _ _ (by first | (simp; done) | (simp; omega) | omega)]; simp [go_sem, World.cell?_alloc_past, *])
  obtain ⟨x1o0, x1n0, x1m0, x1t0_0, x1t0_1, x1o1, x1n1, x1m1, x1t1_0, x1t1_1⟩ : w.heap.size < xw1.heap.size ∧ xw1.heap.size ≠ w.heap.size ∧ w.heap.size ≠ xw1.heap.size ∧ w.heap.size < xw1.heap.size + 1 ∧ w.heap.size < xw1.heap.size + 1 + 1 ∧ w.heap.size + 1 < xw1.heap.size ∧ xw1.heap.size ≠ w.heap.size + 1 ∧ w.heap.size + 1 ≠ xw1.heap.size ∧ w.heap.size + 1 < xw1.heap.size + 1 ∧ w.heap.size + 1 < xw1.heap.size + 1 + 1 := by refine ⟨?_, ?_, ?_, ?_, ?_, ?_, ?_, ?_, ?_, ?_⟩ <;> omega
  have hBx1 : Below w.heap.size w xw1 := (by (repeat (first | (with_reducible refine Below.drew ?_) | (with_reducible refine below_drewN ?_ _) | (with_reducible refine Below.alloc ?_ (by first | omega | (simp; done) | (simp; omega) | (simp at *; omega)) _) | (with_reducible refine Below.setCell ?_ (by first | omega | (simp; done) | (simp; omega) | (simp at *; omega)) _) | (with_reducible exact Below.refl _ _) | (with_reducible assumption) | (with_reducible refine Below.trans ?_ (Below.mono (by assumption) (by first | omega | (simp; done) | (simp; omega) | (simp at *; omega)))))))
  clear hbx1 
  go_wp2_with fail
  refine (Few_is ma A na ca true _ (by omega) hfa).mono ?_
  rintro e xw2 ⟨rfl, hbx2⟩
  have zx2 := hbx2.size
  try simp at zx2
  obtain ⟨x2_0_0, x2_0_1, x2_1_0, x2_1_1⟩ : xw2.cell? ⟨w.heap.size, 0, none⟩ = some (.int .i64 ma) ∧ xw2.cell? ⟨w.heap.size, 1, none⟩ = some (.slice A na ca) ∧ xw2.cell? ⟨w.heap.size + 1, 0, none⟩ = some (.int .i64 mb) ∧ xw2.cell? ⟨w.heap.size + 1, 1, none⟩ = some (.slice B nb cb) := by refine ⟨?_, ?_, ?_, ?_⟩ <;> (rw [(bcell hbx2).1 _ _ (by first | (simp; done) | (simp; omega) | omega)]; simp [go_sem, World.cell?_alloc_past, *])
  obtain ⟨x2o0, x2n0, x2m0, x2t0_0, x2t0_1, x2o1, x2n1, x2m1, x2t1_0, x2t1_1⟩ : w.heap.size < xw2.heap.size ∧ xw2.heap.size ≠ w.heap.size ∧ w.heap.size ≠ xw2.heap.size ∧ w.heap.size < xw2.heap.size + 1 ∧ w.heap.size < xw2.heap.size + 1 + 1 ∧ w.heap.size + 1 < xw2.heap.size ∧ xw2.heap.size ≠ w.heap.size + 1 ∧ w.heap.size + 1 ≠ xw2.heap.size ∧ w.heap.size + 1 < xw2.heap.size + 1 ∧ w.heap.size + 1 < xw2.heap.size + 1 + 1 := by refine ⟨?_, ?_, ?_, ?_, ?_, ?_, ?_, ?_, ?_, ?_⟩ <;> omega
  have hBx2 : Below w.heap.size w xw2 := (by (repeat (first | (with_reducible refine Below.drew ?_) | (with_reducible refine below_drewN ?_ _) | (with_reducible refine Below.alloc ?_ (by first | omega | (simp; done) | (simp; omega) | (simp at *; omega)) _) | (with_reducible refine Below.setCell ?_ (by first | omega | (simp; done) | (simp; omega) | (simp at *; omega)) _) | (with_reducible exact Below.refl _ _) | (with_reducible assumption) | (with_reducible refine Below.trans ?_ (Below.mono (by assumption) (by first | omega | (simp; done) | (simp; omega) | (simp at *; omega)))))))
  clear hbx2 x1_0_0 x1_0_1 x1_1_0 x1_1_1 x1o0 x1n0 x1m0 x1t0_0 x1t0_1 x1o1 x1n1 x1m1 x1t1_0 x1t1_1 hBx1
  go_wp2_with fail
  refine (Few_is mb B nb cb true _ (by omega) hfb).mono ?_
  rintro e xw3 ⟨rfl, hbx3⟩
  have zx3 := hbx3.size
  try simp at zx3
  obtain ⟨x3_0_0, x3_0_1, x3_1_0, x3_1_1⟩ : xw3.cell? ⟨w.heap.size, 0, none⟩ = some (.int .i64 ma) ∧ xw3.cell? ⟨w.heap.size, 1, none⟩ = some (.slice A na ca) ∧ xw3.cell? ⟨w.heap.size + 1, 0, none⟩ = some (.int .i64 mb) ∧ xw3.cell? ⟨w.heap.size + 1, 1, none⟩ = some (.slice B nb cb) := by refine ⟨?_, ?_, ?_, ?_⟩ <;> (rw [(bcell hbx3).1 _ _ (by first | (simp; done) | (simp; omega) | omega)]; simp [go_sem, World.cell?_alloc_past, *])
  obtain ⟨x3o0, x3n0, x3m0, x3t0_0, x3t0_1, x3o1, x3n1, x3m1, x3t1_0, x3t1_1⟩ : w.heap.size < xw3.heap.size ∧ xw3.heap.size ≠ w.heap.size ∧ w.heap.size ≠ xw3.heap.size ∧ w.heap.size < xw3.heap.size + 1 ∧ w.heap.size < xw3.heap.size + 1 + 1 ∧ w.heap.size + 1 < xw3.heap.size ∧ xw3.heap.size ≠ w.heap.size + 1 ∧ w.heap.size + 1 ≠ xw3.heap.size ∧ w.heap.size + 1 < xw3.heap.size + 1 ∧ w.heap.size + 1 < xw3.heap.size + 1 + 1 := by refine ⟨?_, ?_, ?_, ?_, ?_, ?_, ?_, ?_, ?_, ?_⟩ <;> omega
  have hBx3 : Below w.heap.size w xw3 := (by (repeat (first | (with_reducible refine Below.drew ?_) | (with_reducible refine below_drewN ?_ _) | (with_reducible refine Below.alloc ?_ (by first | omega | (simp; done) | (simp; omega) | (simp at *; omega)) _) | (with_reducible refine Below.setCell ?_ (by first | omega | (simp; done) | (simp; omega) | (simp at *; omega)) _) | (with_reducible exact Below.refl _ _) | (with_reducible assumption) | (with_reducible refine Below.trans ?_ (Below.mono (by assumption) (by first | omega | (simp; done) | (simp; omega) | (simp at *; omega)))))))
  clear hbx3 x2_0_0 x2_0_1 x2_1_0 x2_1_1 x2o0 x2n0 x2m0 x2t0_0 x2t0_1 x2o1 x2n1 x2m1 x2t1_0 x2t1_1 hBx2
  go_wp2_with fail
  refine (refTide_is ma LA A ca na 0 _ hna na1 (Lib.hid (HRA.out _ (by (repeat (first | (with_reducible refine Below.drew ?_) | (with_reducible refine below_drewN ?_ _) | (with_reducible refine Below.alloc ?_ (by first | omega | (simp; done) | (simp; omega) | (simp at *; omega)) _) | (with_reducible refine Below.setCell ?_ (by first | omega | (simp; done) | (simp; omega) | (simp at *; omega)) _) | (with_reducible exact Below.refl _ _) | (with_reducible assumption) | (with_reducible refine Below.trans ?_ (Below.mono (by assumption) (by first | omega | (simp; done) | (simp; omega) | (simp at *; omega))))))))) hta).mono ?_
  rintro e xw4 ⟨rfl, hbx4⟩
  have zx4 := hbx4.size
  try simp at zx4
  obtain ⟨x4_0_0, x4_0_1, x4_1_0, x4_1_1⟩ : xw4.cell? ⟨w.heap.size, 0, none⟩ = some (.int .i64 ma) ∧ xw4.cell? ⟨w.heap.size, 1, none⟩ = some (.slice A na ca) ∧ xw4.cell? ⟨w.heap.size + 1, 0, none⟩ = some (.int .i64 mb) ∧ xw4.cell? ⟨w.heap.size + 1, 1, none⟩ = some (.slice B nb cb) := by refine ⟨?_, ?_, ?_, ?_⟩ <;> (rw [(bcell hbx4).1 _ _ (by first | (simp; done) | (simp; omega) | omega)]; simp [go_sem, World.cell?_alloc_past, *])
  obtain ⟨x4o0, x4n0, x4m0, x4t0_0, x4t0_1, x4o1, x4n1, x4m1, x4t1_0, x4t1_1⟩ : w.heap.size < xw4.heap.size ∧ xw4.heap.size ≠ w.heap.size ∧ w.heap.size ≠ xw4.heap.size ∧ w.heap.size < xw4.heap.size + 1 ∧ w.heap.size < xw4.heap.size + 1 + 1 ∧ w.heap.size + 1 < xw4.heap.size ∧ xw4.heap.size ≠ w.heap.size + 1 ∧ w.heap.size + 1 ≠ xw4.heap.size ∧ w.heap.size + 1 < xw4.heap.size + 1 ∧ w.heap.size + 1 < xw4.heap.size + 1 + 1 := by refine ⟨?_, ?_, ?_, ?_, ?_, ?_, ?_, ?_, ?_, ?_⟩ <;> omega
  have hBx4 : Below w.heap.size w xw4 := (by (repeat (first | (with_reducible refine Below.drew ?_) | (with_reducible refine below_drewN ?_ _) | (with_reducible refine Below.alloc ?_ (by first | omega | (simp; done) | (simp; omega) | (simp at *; omega)) _) | (with_reducible refine Below.setCell ?_ (by first | omega | (simp; done) | (simp; omega) | (simp at *; omega)) _) | (with_reducible exact Below.refl _ _) | (with_reducible assumption) | (with_reducible refine Below.trans ?_ (Below.mono (by assumption) (by first | omega | (simp; done) | (simp; omega) | (simp at *; omega)))))))
  clear hbx4 x3_0_0 x3_0_1 x3_1_0 x3_1_1 x3o0 x3n0 x3m0 x3t0_0 x3t0_1 x3o1 x3n1 x3m1 x3t1_0 x3t1_1 hBx3
  go_wp2_with fail
  refine (refTide_is mb LB B cb nb 0 _ hnb nb1 (Lib.hid (HRB.out _ (by (repeat (first | (with_reducible refine Below.drew ?_) | (with_reducible refine below_drewN ?_ _) | (with_reducible refine Below.alloc ?_ (by first | omega | (simp; done) | (simp; omega) | (simp at *; omega)) _) | (with_reducible refine Below.setCell ?_ (by first | omega | (simp; done) | (simp; omega) | (simp at *; omega)) _) | (with_reducible exact Below.refl _ _) | (with_reducible assumption) | (with_reducible refine Below.trans ?_ (Below.mono (by assumption) (by first | omega | (simp; done) | (simp; omega) | (simp at *; omega))))))))) htb).mono ?_
  rintro e xw5 ⟨rfl, hbx5⟩
  have zx5 := hbx5.size
  try simp at zx5
  obtain ⟨x5_0_0, x5_0_1, x5_1_0, x5_1_1⟩ : xw5.cell? ⟨w.heap.size, 0, none⟩ = some (.int .i64 ma) ∧ xw5.cell? ⟨w.heap.size, 1, none⟩ = some (.slice A na ca) ∧ xw5.cell? ⟨w.heap.size + 1, 0, none⟩ = some (.int .i64 mb) ∧ xw5.cell? ⟨w.heap.size + 1, 1, none⟩ = some (.slice B nb cb) := by refine ⟨?_, ?_, ?_, ?_⟩ <;> (rw [(bcell hbx5).1 _ _ (by first | (simp; done) | (simp; omega) | omega)]; simp [go_sem, World.cell?_alloc_past, *])
  obtain ⟨x5o0, x5n0, x5m0, x5t0_0, x5t0_1, x5o1, x5n1, x5m1, x5t1_0, x5t1_1⟩ : w.heap.size < xw5.heap.size ∧ xw5.heap.size ≠ w.heap.size ∧ w.heap.size ≠ xw5.heap.size ∧ w.heap.size < xw5.heap.size + 1 ∧ w.heap.size < xw5.heap.size + 1 + 1 ∧ w.heap.size + 1 < xw5.heap.size ∧ xw5.heap.size ≠ w.heap.size + 1 ∧ w.heap.size + 1 ≠ xw5.heap.size ∧ w.heap.size + 1 < xw5.heap.size + 1 ∧ w.heap.size + 1 < xw5.heap.size + 1 + 1 := by refine ⟨?_, ?_, ?_, ?_, ?_, ?_, ?_, ?_, ?_, ?_⟩ <;> omega
  have hBx5 : Below w.heap.size w xw5 := (by (repeat (first | (with_reducible refine Below.drew ?_) | (with_reducible refine below_drewN ?_ _) | (with_reducible refine Below.alloc ?_ (by first | omega | (simp; done) | (simp; omega) | (simp at *; omega)) _) | (with_reducible refine Below.setCell ?_ (by first | omega | (simp; done) | (simp; omega) | (simp at *; omega)) _) | (with_reducible exact Below.refl _ _) | (with_reducible assumption) | (with_reducible refine Below.trans ?_ (Below.mono (by assumption) (by first | omega | (simp; done) | (simp; omega) | (simp at *; omega)))))))
  clear hbx5 x4_0_0 x4_0_1 x4_1_0 x4_1_1 x4o0 x4n0 x4m0 x4t0_0 x4t0_1 x4o1 x4n1 x4m1 x4t1_0 x4t1_1 hBx4
  go_wp2_with (first | (go_at_call 7; ((with_reducible refine (bW_is _ _ _ true _ hws).mono ?_)); rintro e w' ⟨rfl, rfl⟩) | (go_at_call 8; ((with_reducible refine (isMin_is _ true _ hmin).mono ?_)); rintro e w' ⟨rfl, rfl⟩))
  refine (LevelAt_good ma LA A ca na t x0 x1 _ hna na1 (Lib.hid (HRA.out _ (by (repeat (first | (with_reducible refine Below.drew ?_) | (with_reducible refine below_drewN ?_ _) | (with_reducible refine Below.alloc ?_ (by first | omega | (simp; done) | (simp; omega) | (simp at *; omega)) _) | (with_reducible refine Below.setCell ?_ (by first | omega | (simp; done) | (simp; omega) | (simp at *; omega)) _) | (with_reducible exact Below.refl _ _) | (with_reducible assumption) | (with_reducible refine Below.trans ?_ (Below.mono (by assumption) (by first | omega | (simp; done) | (simp; omega) | (simp at *; omega))))))))) hla hx0 hx1).mono ?_
  rintro e xw6 ⟨rfl, hbx6⟩
  have zx6 := hbx6.size
  try simp at zx6
  obtain ⟨x6_0_0, x6_0_1, x6_1_0, x6_1_1⟩ : xw6.cell? ⟨w.heap.size, 0, none⟩ = some (.int .i64 ma) ∧ xw6.cell? ⟨w.heap.size, 1, none⟩ = some (.slice A na ca) ∧ xw6.cell? ⟨w.heap.size + 1, 0, none⟩ = some (.int .i64 mb) ∧ xw6.cell? ⟨w.heap.size + 1, 1, none⟩ = some (.slice B nb cb) := by refine ⟨?_, ?_, ?_, ?_⟩ <;> (rw [(bcell hbx6).1 _ _ (by first | (simp; done) | (simp; omega) | omega)]; simp [go_sem, World.cell?_alloc_past, *])
  obtain ⟨x6o0, x6n0, x6m0, x6t0_0, x6t0_1, x6o1, x6n1, x6m1, x6t1_0, x6t1_1⟩ : w.heap.size < xw6.heap.size ∧ xw6.heap.size ≠ w.heap.size ∧ w.heap.size ≠ xw6.heap.size ∧ w.heap.size < xw6.heap.size + 1 ∧ w.heap.size < xw6.heap.size + 1 + 1 ∧ w.heap.size + 1 < xw6.heap.size ∧ xw6.heap.size ≠ w.heap.size + 1 ∧ w.heap.size + 1 ≠ xw6.heap.size ∧ w.heap.size + 1 < xw6.heap.size + 1 ∧ w.heap.size + 1 < xw6.heap.size + 1 + 1 := by refine ⟨?_, ?_, ?_, ?_, ?_, ?_, ?_, ?_, ?_, ?_⟩ <;> omega
  have hBx6 : Below w.heap.size w xw6 := (by (repeat (first | (with_reducible refine Below.drew ?_) | (with_reducible refine below_drewN ?_ _) | (with_reducible refine Below.alloc ?_ (by first | omega | (simp; done) | (simp; omega) | (simp at *; omega)) _) | (with_reducible refine Below.setCell ?_ (by first | omega | (simp; done) | (simp; omega) | (simp at *; omega)) _) | (with_reducible exact Below.refl _ _) | (with_reducible assumption) | (with_reducible refine Below.trans ?_ (Below.mono (by assumption) (by first | omega | (simp; done) | (simp; omega) | (simp at *; omega)))))))
  clear hbx6 x5_0_0 x5_0_1 x5_1_0 x5_1_1 x5o0 x5n0 x5m0 x5t0_0 x5t0_1 x5o1 x5n1 x5m1 x5t1_0 x5t1_1 hBx5
  go_wp2_with fail
  refine (LevelAt_good mb LB B cb nb t y0 y1 _ hnb nb1 (Lib.hid (HRB.out _ (by (repeat (first | (with_reducible refine Below.drew ?_) | (with_reducible refine below_drewN ?_ _) | (with_reducible refine Below.alloc ?_ (by first | omega | (simp; done) | (simp; omega) | (simp at *; omega)) _) | (with_reducible refine Below.setCell ?_ (by first | omega | (simp; done) | (simp; omega) | (simp at *; omega)) _) | (with_reducible exact Below.refl _ _) | (with_reducible assumption) | (with_reducible refine Below.trans ?_ (Below.mono (by assumption) (by first | omega | (simp; done) | (simp; omega) | (simp at *; omega))))))))) hlb hy0 hy1).mono ?_
  rintro e xw7 ⟨rfl, hbx7⟩
  have zx7 := hbx7.size
  try simp at zx7
  obtain ⟨x7_0_0, x7_0_1, x7_1_0, x7_1_1, x7_2_0, x7_2_1⟩ : xw7.cell? ⟨w.heap.size, 0, none⟩ = some (.int .i64 ma) ∧ xw7.cell? ⟨w.heap.size, 1, none⟩ = some (.slice A na ca) ∧ xw7.cell? ⟨w.heap.size + 1, 0, none⟩ = some (.int .i64 mb) ∧ xw7.cell? ⟨w.heap.size + 1, 1, none⟩ = some (.slice B nb cb) ∧ xw7.cell? ⟨xw6.heap.size, 0, none⟩ = some (.int .i64 x0) ∧ xw7.cell? ⟨xw6.heap.size, 1, none⟩ = some (.int .i64 x1) := by refine ⟨?_, ?_, ?_, ?_, ?_, ?_⟩ <;> (rw [(bcell hbx7).1 _ _ (by first | (simp; done) | (simp; omega) | omega)]; simp [go_sem, World.cell?_alloc_past, *])
  obtain ⟨x7o0, x7n0, x7m0, x7t0_0, x7t0_1, x7o1, x7n1, x7m1, x7t1_0, x7t1_1, x7o2, x7n2, x7m2, x7t2_0, x7t2_1⟩ : w.heap.size < xw7.heap.size ∧ xw7.heap.size ≠ w.heap.size ∧ w.heap.size ≠ xw7.heap.size ∧ w.heap.size < xw7.heap.size + 1 ∧ w.heap.size < xw7.heap.size + 1 + 1 ∧ w.heap.size + 1 < xw7.heap.size ∧ xw7.heap.size ≠ w.heap.size + 1 ∧ w.heap.size + 1 ≠ xw7.heap.size ∧ w.heap.size + 1 < xw7.heap.size + 1 ∧ w.heap.size + 1 < xw7.heap.size + 1 + 1 ∧ xw6.heap.size < xw7.heap.size ∧ xw7.heap.size ≠ xw6.heap.size ∧ xw6.heap.size ≠ xw7.heap.size ∧ xw6.heap.size < xw7.heap.size + 1 ∧ xw6.heap.size < xw7.heap.size + 1 + 1 := by refine ⟨?_, ?_, ?_, ?_, ?_, ?_, ?_, ?_, ?_, ?_, ?_, ?_, ?_, ?_, ?_⟩ <;> omega
  have hBx7 : Below w.heap.size w xw7 := (by (repeat (first | (with_reducible refine Below.drew ?_) | (with_reducible refine below_drewN ?_ _) | (with_reducible refine Below.alloc ?_ (by first | omega | (simp; done) | (simp; omega) | (simp at *; omega)) _) | (with_reducible refine Below.setCell ?_ (by first | omega | (simp; done) | (simp; omega) | (simp at *; omega)) _) | (with_reducible exact Below.refl _ _) | (with_reducible assumption) | (with_reducible refine Below.trans ?_ (Below.mono (by assumption) (by first | omega | (simp; done) | (simp; omega) | (simp at *; omega)))))))
  clear hbx7 x6_0_0 x6_0_1 x6_1_0 x6_1_1 x6o0 x6n0 x6m0 x6t0_0 x6t0_1 x6o1 x6n1 x6m1 x6t1_0 x6t1_1 hBx6
  go_upto_region 7 with (fail)
  refine wp_world (R7 w w.heap.size (w.heap.size + 1) xw6.heap.size xw7.heap.size ma mb x0 x1 y0 y1 A B na nb ca cb) ⟨⟨by simp [go_sem, World.cell?_alloc_past, *], by simp [go_sem, World.cell?_alloc_past, *], by simp [go_sem, World.cell?_alloc_past, *], by simp [go_sem, World.cell?_alloc_past, *]⟩, by simp [go_sem, World.cell?_alloc_past, *], by simp [go_sem, World.cell?_alloc_past, *], by simp [go_sem], by simp [go_sem], by simp; omega, by simp; omega, by simp; omega, by simp, (by (repeat (first | (with_reducible refine Below.drew ?_) | (with_reducible refine below_drewN ?_ _) | (with_reducible refine Below.alloc ?_ (by first | omega | (simp; done) | (simp; omega) | (simp at *; omega)) _) | (with_reducible refine Below.setCell ?_ (by first | omega | (simp; done) | (simp; omega) | (simp at *; omega)) _) | (with_reducible exact Below.refl _ _) | (with_reducible assumption) | (with_reducible refine Below.trans ?_ (Below.mono (by assumption) (by first | omega | (simp; done) | (simp; omega) | (simp at *; omega)))))))⟩ (fun u hu => ?_)
  obtain ⟨p3, ep3⟩ : ∃ x, w.heap.size = x := ⟨_, rfl⟩
  obtain ⟨p4, ep4⟩ : ∃ x, w.heap.size + 1 = x := ⟨_, rfl⟩
  obtain ⟨hs7, ux0, ux1, uy0, uy1, up3, up4, up7, up9, hBu⟩ := hu
  clear x7_0_0 x7_0_1 x7_1_0 x7_1_1 x7_2_0 x7_2_1 x7o0 x7n0 x7m0 x7t0_0 x7t0_1 x7o1 x7n1 x7m1 x7t1_0 x7t1_1 x7o2 x7n2 x7m2 x7t2_0 x7t2_1 hBx7
  generalize xw6.heap.size = p7 at *
  generalize xw7.heap.size = p9 at *
  have HS : Hid (∀ V, Below u.heap.size u V → S7 w.heap.size (w.heap.size + 1) ma mb A B na nb ca cb V) := Lib.hid fun V hV => ⟨(hV.cell (p := ⟨_, 0, none⟩) up3).trans hs7.1, (hV.cell (p := ⟨_, 1, none⟩) up3).trans hs7.2.1, (hV.cell (p := ⟨_, 0, none⟩) up4).trans hs7.2.2.1, (hV.cell (p := ⟨_, 1, none⟩) up4).trans hs7.2.2.2⟩
  have HA : Hid (∀ V, Below u.heap.size u V → SlRows wvV 3 V A LA) := Lib.hid fun V hV => (HRA.out u hBu).below hV
  have HB : Hid (∀ V, Below u.heap.size u V → SlRows wvV 3 V B LB) := Lib.hid fun V hV => (HRB.out u hBu).below hV
  clear ep3 ep4 p3 p4
  go_cut [11, 12, 74] from 75 (fun s11 s12 s74 wx => C7 u z0 z1 s11 s12 wx)
  case first =>
    refine wp_region_held_drew (S := S7 w.heap.size (w.heap.size + 1) ma mb A B na nb ca cb) (by kernel_rfl) (HS.out _ (Below.refl u.heap.size u).drew) (fun hHeld => ?_)
    refine tkH 0 ⟨some 75, _, _, _, _, _⟩ ?_ rfl ?_ (by assumption) ?_
    rotate_left
    · (intro w hSw; obtain ⟨s1, s2, s3, s4⟩ := hSw; go_simp; all_goals with_reducible rfl)
    try simp only [Act.put, sA, sB, sC]
    refine tkH 1 ⟨some 76, _, _, _, _, _⟩ ?_ rfl ?_ (by assumption) ?_
    rotate_left
    · (intro w hSw; obtain ⟨s1, s2, s3, s4⟩ := hSw; go_simp; all_goals with_reducible rfl)
    try simp only [Act.put, sA, sB, sC]
    refine tkH 2 ⟨some 77, _, _, _, _, _⟩ ?_ rfl ?_ (by assumption) ?_
    rotate_left
    · (intro w hSw; obtain ⟨s1, s2, s3, s4⟩ := hSw; go_simp; all_goals with_reducible rfl)
    try simp only [Act.put, sA, sB, sC]
    refine tkH 3 ⟨some 78, _, _, _, _, _⟩ ?_ rfl ?_ (by assumption) ?_
    rotate_left
    · (intro w hSw; obtain ⟨s1, s2, s3, s4⟩ := hSw; go_simp; all_goals with_reducible rfl)
    try simp only [Act.put, sA, sB, sC]
    refine tkH 4 ⟨some 79, _, _, _, _, _⟩ ?_ rfl ?_ (by assumption) ?_
    rotate_left
    · (intro w hSw; obtain ⟨s1, s2, s3, s4⟩ := hSw; go_simp; all_goals with_reducible rfl)
    try simp only [Act.put, sA, sB, sC]
    refine tkH 6 ⟨some 81, _, _, _, _, _⟩ ?_ rfl ?_ (by assumption) ?_
    rotate_left
    · (intro w hSw; obtain ⟨s1, s2, s3, s4⟩ := hSw; go_simp; all_goals with_reducible rfl)
    try simp only [Act.put, sA, sB, sC]
    refine tkH 7 ⟨some 82, _, _, _, _, _⟩ ?_ rfl ?_ (by assumption) ?_
    rotate_left
    · (intro w hSw; obtain ⟨s1, s2, s3, s4⟩ := hSw; go_simp; all_goals with_reducible rfl)
    try simp only [Act.put, sA, sB, sC]
    refine tkH 9 ⟨some 84, _, _, _, _, _⟩ ?_ rfl ?_ (by assumption) ?_
    rotate_left
    · (intro w hSw; obtain ⟨s1, s2, s3, s4⟩ := hSw; go_simp; all_goals with_reducible rfl)
    try simp only [Act.put, sA, sB, sC]
    refine tkH 10 ⟨some 85, _, _, _, _, _⟩ ?_ rfl ?_ (by assumption) ?_
    rotate_left
    · (intro w hSw; obtain ⟨s1, s2, s3, s4⟩ := hSw; go_simp; all_goals with_reducible rfl)
    try simp only [Act.put, sA, sB, sC]
    refine tkH 13 ⟨some 88, _, _, _, _, _⟩ ?_ rfl ?_ (by assumption) ?_
    rotate_left
    · (intro w hSw; obtain ⟨s1, s2, s3, s4⟩ := hSw; go_simp; all_goals with_reducible rfl)
    try simp only [Act.put, sA, sB, sC]
    have hB0 : Below u.heap.size u u.drew := (Below.refl u.heap.size u).drew
    generalize hdr : u.drew = v0 at *
    clear hdr
    refine wpAnyH_ready (rs := [5, 18]) (by kernel_rfl) (by simp) ?_
    refine AllReadyH.cons rfl (fun K hK => ?_) (AllReadyH.cons rfl (fun K hK => ?_) (AllReadyH.nil))
    · skip
      go_simp
      go_wp2_with fail
      refine hK.out _ _ (HS.out _ ((hB0).alloc (hB0).size _)) (fun hHeld => ?_)
      clear hK K
      try simp only [Act.put, sA, sB, sC]
      obtain ⟨bz, ebz⟩ : ∃ x, v0.heap.size = x := ⟨_, rfl⟩
      generalize hq1 : v0.alloc (.cells #[] 36) = v1
      have hb1 : Below v0.heap.size v0 v1 := by rw [← hq1]; exact (Below.refl _ _).alloc (Nat.le_refl _) _
      have HO1 : Hid (v1.ownsRow u.heap.size 36 3 (.slice (some ⟨bz, 0, none⟩) 0 0) 0 []) := Lib.hid (own_emptyS (by rw [← ebz]; exact (hB0).size) (by rw [← hq1, ← ebz]; exact heap_alloc_new _ _))
      have hB1 : Below u.heap.size u v1 := (hB0).trans (hb1.mono (hB0).size)
      rw [ebz]
      clear hq1
      refine wpAnyH_ready (rs := [8, 18]) (by kernel_rfl) (by simp) ?_
      refine AllReadyH.cons rfl (fun K hK => ?_) (AllReadyH.cons rfl (fun K hK => ?_) (AllReadyH.nil))
      · skip
        rw [if_pos (by kernel_rfl)]
        have HX2 := Lib.hid (wv_src (HA.out _ (hB1)))
        refine oper_append_sl _ _ 22 rfl u.heap.size 36 i0 (.agg #[.int .i64 0, .int .i64 0, .int .i64 0]) 3 24 Try.underlying22 HI.out HZ0.out HZ1.out HZ2.out rfl (by decide) _ 0 [] rfl HO1.out A na ca (rowsV wvV LA) rfl CA.out HLLA.out HX2.out (rows_one wvV_one LA) ?c2 ?c3 (hB1).size ?_
        case c2 => unfold maxLen; omega
        case c3 => omega
        intro w2v v2 hown hgrow hblk
        try simp only [Nat.zero_add, List.nil_append] at hown
        have HO2 := Lib.hid hown
        have hB2 : Below u.heap.size u v2 := (hB1).grown hgrow (hB1).size (fun r hr => (own_block HO1.out r hr).1)
        clear hown hgrow hblk
        refine hK.out _ _ (HS.out _ hB2) (fun hHeld => ?_)
        clear hK K
        try simp only [Act.put, sA, sB, sC]
        refine wpAnyH_ready (rs := [11, 18]) (by kernel_rfl) (by simp) ?_
        refine AllReadyH.cons rfl (fun K hK => ?_) (AllReadyH.cons rfl (fun K hK => ?_) (AllReadyH.nil))
        · skip
          rw [if_pos (by kernel_rfl)]
          have HX3 := Lib.hid (wv_src (HB.out _ (hB2)))
          refine oper_append_sl _ _ 22 rfl u.heap.size 36 i0 (.agg #[.int .i64 0, .int .i64 0, .int .i64 0]) 3 24 Try.underlying22 HI.out HZ0.out HZ1.out HZ2.out rfl (by decide) _ na (rowsV wvV LA) rfl HO2.out B nb cb (rowsV wvV LB) rfl CB.out HLLB.out HX3.out (rows_one wvV_one LB) ?c2 ?c3 (hB2).size ?_
          case c2 => unfold maxLen; omega
          case c3 => omega
          intro w3v v3 hown hgrow hblk
          try simp only [Nat.zero_add, List.nil_append] at hown
          have HO3 := Lib.hid hown
          have hB3 : Below u.heap.size u v3 := (hB2).grown hgrow (hB2).size (fun r hr => (own_block HO2.out r hr).1)
          have hown2 : v3.ownsRow u.heap.size 36 3 w3v (LA ++ LB).length (rowsV wvV (LA ++ LB)) := by rw [rowsV_app, List.length_append, ← hna.out, ← hnb.out]; exact HO3.out
          obtain ⟨G, capg, hvg, hSg, _, _, _, _⟩ := SlRows_own (f := wvV) (n := 3) (fun _ => rfl) hown2
          rw [List.length_append, ← hna.out, ← hnb.out] at hvg
          subst hvg
          have HG3 := Lib.hid hSg
          clear hown2 hSg
          clear hown hgrow hblk
          refine hK.out _ _ (HS.out _ hB3) (fun hHeld => ?_)
          clear hK K
          try simp only [Act.put, sA, sB, sC]
          refine tkH 12 ⟨some 87, _, _, _, _, _⟩ ?_ rfl ?_ (by assumption) ?_
          rotate_left
          · (intro w hSw; (try dsimp only at hSw); go_simp; all_goals with_reducible rfl)
          try simp only [Act.put, sA, sB, sC]
          refine wpAnyH_ready (rs := [14, 18]) (by kernel_rfl) (by simp) ?_
          refine AllReadyH.cons rfl (fun K hK => ?_) (AllReadyH.cons rfl (fun K hK => ?_) (AllReadyH.nil))
          · skip
            go_simp
            refine (LevelAt_good (ma + mb) (LA ++ LB) G capg (na + nb) t z0 z1 _ (Lib.hid (by rw [List.length_append, ← hna.out, ← hnb.out])) (by omega) HG3 hE hz0 hz1).mono ?_
            rintro e v4 ⟨rfl, hb4⟩
            have hB4 : Below u.heap.size u v4 := (hB3).trans (hb4.mono (hB3).size)
            go_wp2_with fail
            refine hK.out _ _ (HS.out _ hB4) (fun hHeld => ?_)
            clear hK K
            try simp only [Act.put, sA, sB, sC]
            refine tkH 15 ⟨some 74, _, _, _, _, _⟩ ?_ rfl ?_ (by assumption) ?_
            rotate_left
            · (intro w hSw; (try dsimp only at hSw); go_simp; all_goals with_reducible rfl)
            try simp only [Act.put, sA, sB, sC]
            refine tkH 16 ⟨some 90, _, _, _, _, _⟩ ?_ rfl ?_ (by assumption) ?_
            rotate_left
            · (intro w hSw; (try dsimp only at hSw); go_simp; all_goals with_reducible rfl)
            try simp only [Act.put, sA, sB, sC]
            refine tkH 17 ⟨some 91, _, _, _, _, _⟩ ?_ rfl ?_ (by assumption) ?_
            rotate_left
            · (intro w hSw; (try dsimp only at hSw); go_simp; all_goals with_reducible rfl)
            try simp only [Act.put, sA, sB, sC]
            refine wpAnyH_ready (rs := [18]) (by kernel_rfl) (by simp) ?_
            refine AllReadyH.cons rfl (fun K hK => ?_) (AllReadyH.nil)
            go_simp
            go_wp2_with fail
            refine hK.out _ _ (HS.out _ ((hB4).alloc (hB4).size _)) (fun hHeld => ?_)
            clear hK K
            try simp only [Act.put, sA, sB, sC]
            obtain ⟨zb, ezb⟩ : ∃ x, v4.heap.size = x := ⟨_, rfl⟩
            generalize hq5 : v4.alloc (.cells #[.int .i64 0, .int .i64 0] 31) = v5
            have hb5 : Below v4.heap.size v4 v5 := by rw [← hq5]; exact (Below.refl _ _).alloc (Nat.le_refl _) _
            have Z5 : v5.cell? ⟨zb, 0, none⟩ = some (.int .i64 0) ∧ v5.cell? ⟨zb, 1, none⟩ = some (.int .i64 0) ∧ (∀ j, v5.frozen? ⟨zb, j, none⟩ = false) := by rw [← hq5, ← ezb]; exact ⟨by simp [go_sem], by simp [go_sem], fun j => by simp [go_sem]⟩
            have zl5 : zb < v5.heap.size := by rw [← hq5, ← ezb]; simp
            have zge : u.heap.size ≤ zb := by rw [← ezb]; exact (hB4).size
            have hB5 : Below u.heap.size u v5 := (hB4).trans (hb5.mono (hB4).size)
            rw [ezb]
            clear hq5
            have hSv := HS.out _ hB5
            obtain ⟨Zc0, Zc1, Zf⟩ := Z5
            refine wpAnyH_ready (rs := [19]) (by kernel_rfl) (by simp) ?_
            refine AllReadyH.cons rfl (fun K hK => ?_) (AllReadyH.nil)
            go_simp
            go_wp2_with fail
            refine hK.out _ _ ?_ (fun hHeld => ?_)
            rotate_left
            clear hK K
            try simp only [Act.put, sA, sB, sC]
            refine tkH 20 ⟨some 12, _, _, _, _, _⟩ ?_ rfl ?_ (by assumption) ?_
            rotate_left
            · (intro w hSw; (try dsimp only at hSw); go_simp; all_goals with_reducible rfl)
            try simp only [Act.put, sA, sB, sC]
            refine wpAnyH_done (by kernel_rfl) ?_ _
            go_wp2_with fail
            go_meet
            exact ⟨zb, rfl, rfl, by simp [go_sem, Zc0, Zc1], by simp [go_sem, Zc0, Zc1], by simpa using zl5, zge, by simpa using hB5.setCell (p := ⟨zb, 0, none⟩) zge _ |>.setCell (p := ⟨zb, 1, none⟩) zge _⟩
            · exact HS.out _ ((hB5.setCell (p := ⟨zb, 0, none⟩) zge _).setCell (p := ⟨zb, 1, none⟩) zge _)
          · skip
            go_simp
            go_wp2_with fail
            refine hK.out _ _ (HS.out _ ((hB3).alloc (hB3).size _)) (fun hHeld => ?_)
            clear hK K
            try simp only [Act.put, sA, sB, sC]
            obtain ⟨zb, ezb⟩ : ∃ x, v3.heap.size = x := ⟨_, rfl⟩
            generalize hq4 : v3.alloc (.cells #[.int .i64 0, .int .i64 0] 31) = v4
            have hb4 : Below v3.heap.size v3 v4 := by rw [← hq4]; exact (Below.refl _ _).alloc (Nat.le_refl _) _
            have Z4 : v4.cell? ⟨zb, 0, none⟩ = some (.int .i64 0) ∧ v4.cell? ⟨zb, 1, none⟩ = some (.int .i64 0) ∧ (∀ j, v4.frozen? ⟨zb, j, none⟩ = false) := by rw [← hq4, ← ezb]; exact ⟨by simp [go_sem], by simp [go_sem], fun j => by simp [go_sem]⟩
            have zl4 : zb < v4.heap.size := by rw [← hq4, ← ezb]; simp
            have zge : u.heap.size ≤ zb := by rw [← ezb]; exact (hB3).size
            have hB4 : Below u.heap.size u v4 := (hB3).trans (hb4.mono (hB3).size)
            have HG4 := Lib.hid (HG3.out.below hb4)
            rw [ezb]
            clear hq4
            refine wpAnyH_ready (rs := [14]) (by kernel_rfl) (by simp) ?_
            refine AllReadyH.cons rfl (fun K hK => ?_) (AllReadyH.nil)
            go_simp
            refine (LevelAt_good (ma + mb) (LA ++ LB) G capg (na + nb) t z0 z1 _ (Lib.hid (by rw [List.length_append, ← hna.out, ← hnb.out])) (by omega) HG4 hE hz0 hz1).mono ?_
            rintro e v5 ⟨rfl, hb5⟩
            have hB5 : Below u.heap.size u v5 := (hB4).trans (hb5.mono (hB4).size)
            have Z5 : v5.cell? ⟨zb, 0, none⟩ = some (.int .i64 0) ∧ v5.cell? ⟨zb, 1, none⟩ = some (.int .i64 0) ∧ (∀ j, v5.frozen? ⟨zb, j, none⟩ = false) := ⟨by rw [(bcell hb5).1 _ _ zl4]; exact Z4.1, by rw [(bcell hb5).1 _ _ zl4]; exact Z4.2.1, fun j => by rw [(bcell hb5).2 _ _ zl4]; exact Z4.2.2 j⟩
            have zl5 : zb < v5.heap.size := Nat.lt_of_lt_of_le zl4 hb5.size
            go_wp2_with fail
            refine hK.out _ _ (HS.out _ hB5) (fun hHeld => ?_)
            clear hK K
            try simp only [Act.put, sA, sB, sC]
            refine tkH 15 ⟨some 74, _, _, _, _, _⟩ ?_ rfl ?_ (by assumption) ?_
            rotate_left
            · (intro w hSw; (try dsimp only at hSw); go_simp; all_goals with_reducible rfl)
            try simp only [Act.put, sA, sB, sC]
            refine tkH 16 ⟨some 90, _, _, _, _, _⟩ ?_ rfl ?_ (by assumption) ?_
            rotate_left
            · (intro w hSw; (try dsimp only at hSw); go_simp; all_goals with_reducible rfl)
            try simp only [Act.put, sA, sB, sC]
            refine tkH 17 ⟨some 91, _, _, _, _, _⟩ ?_ rfl ?_ (by assumption) ?_
            rotate_left
            · (intro w hSw; (try dsimp only at hSw); go_simp; all_goals with_reducible rfl)
            try simp only [Act.put, sA, sB, sC]
            obtain ⟨Zc0, Zc1, Zf⟩ := Z5
            refine wpAnyH_ready (rs := [19]) (by kernel_rfl) (by simp) ?_
            refine AllReadyH.cons rfl (fun K hK => ?_) (AllReadyH.nil)
            go_simp
            go_wp2_with fail
            refine hK.out _ _ ?_ (fun hHeld => ?_)
            rotate_left
            clear hK K
            try simp only [Act.put, sA, sB, sC]
            refine tkH 20 ⟨some 12, _, _, _, _, _⟩ ?_ rfl ?_ (by assumption) ?_
            rotate_left
            · (intro w hSw; (try dsimp only at hSw); go_simp; all_goals with_reducible rfl)
            try simp only [Act.put, sA, sB, sC]
            refine wpAnyH_done (by kernel_rfl) ?_ _
            go_wp2_with fail
            go_meet
            exact ⟨zb, rfl, rfl, by simp [go_sem, Zc0, Zc1], by simp [go_sem, Zc0, Zc1], by simpa using zl5, zge, by simpa using hB5.setCell (p := ⟨zb, 0, none⟩) zge _ |>.setCell (p := ⟨zb, 1, none⟩) zge _⟩
            · exact HS.out _ ((hB5.setCell (p := ⟨zb, 0, none⟩) zge _).setCell (p := ⟨zb, 1, none⟩) zge _)
        · skip
          go_simp
          go_wp2_with fail
          refine hK.out _ _ (HS.out _ ((hB2).alloc (hB2).size _)) (fun hHeld => ?_)
          clear hK K
          try simp only [Act.put, sA, sB, sC]
          obtain ⟨zb, ezb⟩ : ∃ x, v2.heap.size = x := ⟨_, rfl⟩
          generalize hq3 : v2.alloc (.cells #[.int .i64 0, .int .i64 0] 31) = v3
          have hb3 : Below v2.heap.size v2 v3 := by rw [← hq3]; exact (Below.refl _ _).alloc (Nat.le_refl _) _
          have Z3 : v3.cell? ⟨zb, 0, none⟩ = some (.int .i64 0) ∧ v3.cell? ⟨zb, 1, none⟩ = some (.int .i64 0) ∧ (∀ j, v3.frozen? ⟨zb, j, none⟩ = false) := by rw [← hq3, ← ezb]; exact ⟨by simp [go_sem], by simp [go_sem], fun j => by simp [go_sem]⟩
          have zl3 : zb < v3.heap.size := by rw [← hq3, ← ezb]; simp
          have zge : u.heap.size ≤ zb := by rw [← ezb]; exact (hB2).size
          have hB3 : Below u.heap.size u v3 := (hB2).trans (hb3.mono (hB2).size)
          have HO3 := Lib.hid (own_below HO2.out hb3 (Nat.le_refl _))
          have HQ3 : Hid (∀ k, (w2v).ownBlock = some k → k ≠ zb) := Lib.hid fun k hk => by have := (own_block HO2.out k hk).2; omega
          rw [ezb]
          clear hq3
          refine wpAnyH_ready (rs := [11]) (by kernel_rfl) (by simp) ?_
          refine AllReadyH.cons rfl (fun K hK => ?_) (AllReadyH.nil)
          rw [if_pos (by kernel_rfl)]
          have HX4 := Lib.hid (wv_src (HB.out _ (hB3)))
          refine oper_append_sl _ _ 22 rfl u.heap.size 36 i0 (.agg #[.int .i64 0, .int .i64 0, .int .i64 0]) 3 24 Try.underlying22 HI.out HZ0.out HZ1.out HZ2.out rfl (by decide) _ na (rowsV wvV LA) rfl HO3.out B nb cb (rowsV wvV LB) rfl CB.out HLLB.out HX4.out (rows_one wvV_one LB) ?c2 ?c3 (hB3).size ?_
          case c2 => unfold maxLen; omega
          case c3 => omega
          intro w4v v4 hown hgrow hblk
          try simp only [Nat.zero_add, List.nil_append] at hown
          have HO4 := Lib.hid hown
          have hB4 : Below u.heap.size u v4 := (hB3).grown hgrow (hB3).size (fun r hr => (own_block HO3.out r hr).1)
          have zq4 : ∀ k, (w2v).ownBlock = some k → k ≠ zb := HQ3.out
          have zh4 : v4.heap[zb]? = v3.heap[zb]? := hgrow.block zb zl3 (fun e => zq4 zb (by first | exact e | exact e.symm) rfl)
          have Z4 : v4.cell? ⟨zb, 0, none⟩ = some (.int .i64 0) ∧ v4.cell? ⟨zb, 1, none⟩ = some (.int .i64 0) ∧ (∀ j, v4.frozen? ⟨zb, j, none⟩ = false) := ⟨by rw [World.cell?, zh4]; exact Z3.1, by rw [World.cell?, zh4]; exact Z3.2.1, fun j => by rw [World.frozen?, zh4]; exact Z3.2.2 j⟩
          have zl4 : zb < v4.heap.size := Nat.lt_of_lt_of_le zl3 hgrow.size
          have HQ4 : Hid (∀ k, (w4v).ownBlock = some k → k ≠ zb) := Lib.hid fun k hk => by (rcases hblk k hk with h9 | h9; exact zq4 k h9; (have := zl3; omega))
          clear zq4 zh4
          have hown2 : v4.ownsRow u.heap.size 36 3 w4v (LA ++ LB).length (rowsV wvV (LA ++ LB)) := by rw [rowsV_app, List.length_append, ← hna.out, ← hnb.out]; exact HO4.out
          obtain ⟨G, capg, hvg, hSg, _, _, _, _⟩ := SlRows_own (f := wvV) (n := 3) (fun _ => rfl) hown2
          rw [List.length_append, ← hna.out, ← hnb.out] at hvg
          subst hvg
          have HG4 := Lib.hid hSg
          clear hown2 hSg
          clear hown hgrow hblk
          refine hK.out _ _ (HS.out _ hB4) (fun hHeld => ?_)
          clear hK K
          try simp only [Act.put, sA, sB, sC]
          refine tkH 12 ⟨some 87, _, _, _, _, _⟩ ?_ rfl ?_ (by assumption) ?_
          rotate_left
          · (intro w hSw; (try dsimp only at hSw); go_simp; all_goals with_reducible rfl)
          try simp only [Act.put, sA, sB, sC]
          refine wpAnyH_ready (rs := [14]) (by kernel_rfl) (by simp) ?_
          refine AllReadyH.cons rfl (fun K hK => ?_) (AllReadyH.nil)
          go_simp
          refine (LevelAt_good (ma + mb) (LA ++ LB) G capg (na + nb) t z0 z1 _ (Lib.hid (by rw [List.length_append, ← hna.out, ← hnb.out])) (by omega) HG4 hE hz0 hz1).mono ?_
          rintro e v5 ⟨rfl, hb5⟩
          have hB5 : Below u.heap.size u v5 := (hB4).trans (hb5.mono (hB4).size)
          have Z5 : v5.cell? ⟨zb, 0, none⟩ = some (.int .i64 0) ∧ v5.cell? ⟨zb, 1, none⟩ = some (.int .i64 0) ∧ (∀ j, v5.frozen? ⟨zb, j, none⟩ = false) := ⟨by rw [(bcell hb5).1 _ _ zl4]; exact Z4.1, by rw [(bcell hb5).1 _ _ zl4]; exact Z4.2.1, fun j => by rw [(bcell hb5).2 _ _ zl4]; exact Z4.2.2 j⟩
          have zl5 : zb < v5.heap.size := Nat.lt_of_lt_of_le zl4 hb5.size
          go_wp2_with fail
          refine hK.out _ _ (HS.out _ hB5) (fun hHeld => ?_)
          clear hK K
          try simp only [Act.put, sA, sB, sC]
          refine tkH 15 ⟨some 74, _, _, _, _, _⟩ ?_ rfl ?_ (by assumption) ?_
          rotate_left
          · (intro w hSw; (try dsimp only at hSw); go_simp; all_goals with_reducible rfl)
          try simp only [Act.put, sA, sB, sC]
          refine tkH 16 ⟨some 90, _, _, _, _, _⟩ ?_ rfl ?_ (by assumption) ?_
          rotate_left
          · (intro w hSw; (try dsimp only at hSw); go_simp; all_goals with_reducible rfl)
          try simp only [Act.put, sA, sB, sC]
          refine tkH 17 ⟨some 91, _, _, _, _, _⟩ ?_ rfl ?_ (by assumption) ?_
          rotate_left
          · (intro w hSw; (try dsimp only at hSw); go_simp; all_goals with_reducible rfl)
          try simp only [Act.put, sA, sB, sC]
          obtain ⟨Zc0, Zc1, Zf⟩ := Z5
          refine wpAnyH_ready (rs := [19]) (by kernel_rfl) (by simp) ?_
          refine AllReadyH.cons rfl (fun K hK => ?_) (AllReadyH.nil)
          go_simp
          go_wp2_with fail
          refine hK.out _ _ ?_ (fun hHeld => ?_)
          rotate_left
          clear hK K
          try simp only [Act.put, sA, sB, sC]
          refine tkH 20 ⟨some 12, _, _, _, _, _⟩ ?_ rfl ?_ (by assumption) ?_
          rotate_left
          · (intro w hSw; (try dsimp only at hSw); go_simp; all_goals with_reducible rfl)
          try simp only [Act.put, sA, sB, sC]
          refine wpAnyH_done (by kernel_rfl) ?_ _
          go_wp2_with fail
          go_meet
          exact ⟨zb, rfl, rfl, by simp [go_sem, Zc0, Zc1], by simp [go_sem, Zc0, Zc1], by simpa using zl5, zge, by simpa using hB5.setCell (p := ⟨zb, 0, none⟩) zge _ |>.setCell (p := ⟨zb, 1, none⟩) zge _⟩
          · exact HS.out _ ((hB5.setCell (p := ⟨zb, 0, none⟩) zge _).setCell (p := ⟨zb, 1, none⟩) zge _)
      · skip
        go_simp
        go_wp2_with fail
        refine hK.out _ _ (HS.out _ ((hB1).alloc (hB1).size _)) (fun hHeld => ?_)
        clear hK K
        try simp only [Act.put, sA, sB, sC]
        obtain ⟨zb, ezb⟩ : ∃ x, v1.heap.size = x := ⟨_, rfl⟩
        generalize hq2 : v1.alloc (.cells #[.int .i64 0, .int .i64 0] 31) = v2
        have hb2 : Below v1.heap.size v1 v2 := by rw [← hq2]; exact (Below.refl _ _).alloc (Nat.le_refl _) _
        have Z2 : v2.cell? ⟨zb, 0, none⟩ = some (.int .i64 0) ∧ v2.cell? ⟨zb, 1, none⟩ = some (.int .i64 0) ∧ (∀ j, v2.frozen? ⟨zb, j, none⟩ = false) := by rw [← hq2, ← ezb]; exact ⟨by simp [go_sem], by simp [go_sem], fun j => by simp [go_sem]⟩
        have zl2 : zb < v2.heap.size := by rw [← hq2, ← ezb]; simp
        have zge : u.heap.size ≤ zb := by rw [← ezb]; exact (hB1).size
        have hB2 : Below u.heap.size u v2 := (hB1).trans (hb2.mono (hB1).size)
        have HO2 := Lib.hid (own_below HO1.out hb2 (Nat.le_refl _))
        have HQ2 : Hid (∀ k, (Value.slice (some ⟨bz, 0, none⟩) 0 0).ownBlock = some k → k ≠ zb) := Lib.hid fun k hk => by have := (own_block HO1.out k hk).2; omega
        rw [ezb]
        clear hq2
        refine wpAnyH_ready (rs := [8]) (by kernel_rfl) (by simp) ?_
        refine AllReadyH.cons rfl (fun K hK => ?_) (AllReadyH.nil)
        rw [if_pos (by kernel_rfl)]
        have HX3 := Lib.hid (wv_src (HA.out _ (hB2)))
        refine oper_append_sl _ _ 22 rfl u.heap.size 36 i0 (.agg #[.int .i64 0, .int .i64 0, .int .i64 0]) 3 24 Try.underlying22 HI.out HZ0.out HZ1.out HZ2.out rfl (by decide) _ 0 [] rfl HO2.out A na ca (rowsV wvV LA) rfl CA.out HLLA.out HX3.out (rows_one wvV_one LA) ?c2 ?c3 (hB2).size ?_
        case c2 => unfold maxLen; omega
        case c3 => omega
        intro w3v v3 hown hgrow hblk
        try simp only [Nat.zero_add, List.nil_append] at hown
        have HO3 := Lib.hid hown
        have hB3 : Below u.heap.size u v3 := (hB2).grown hgrow (hB2).size (fun r hr => (own_block HO2.out r hr).1)
        have zq3 : ∀ k, (Value.slice (some ⟨bz, 0, none⟩) 0 0).ownBlock = some k → k ≠ zb := HQ2.out
        have zh3 : v3.heap[zb]? = v2.heap[zb]? := hgrow.block zb zl2 (fun e => zq3 zb (by first | exact e | exact e.symm) rfl)
        have Z3 : v3.cell? ⟨zb, 0, none⟩ = some (.int .i64 0) ∧ v3.cell? ⟨zb, 1, none⟩ = some (.int .i64 0) ∧ (∀ j, v3.frozen? ⟨zb, j, none⟩ = false) := ⟨by rw [World.cell?, zh3]; exact Z2.1, by rw [World.cell?, zh3]; exact Z2.2.1, fun j => by rw [World.frozen?, zh3]; exact Z2.2.2 j⟩
        have zl3 : zb < v3.heap.size := Nat.lt_of_lt_of_le zl2 hgrow.size
        have HQ3 : Hid (∀ k, (w3v).ownBlock = some k → k ≠ zb) := Lib.hid fun k hk => by (rcases hblk k hk with h9 | h9; exact zq3 k h9; (have := zl2; omega))
        clear zq3 zh3
        clear hown hgrow hblk
        refine hK.out _ _ (HS.out _ hB3) (fun hHeld => ?_)
        clear hK K
        try simp only [Act.put, sA, sB, sC]
        refine wpAnyH_ready (rs := [11]) (by kernel_rfl) (by simp) ?_
        refine AllReadyH.cons rfl (fun K hK => ?_) (AllReadyH.nil)
        rw [if_pos (by kernel_rfl)]
        have HX4 := Lib.hid (wv_src (HB.out _ (hB3)))
        refine oper_append_sl _ _ 22 rfl u.heap.size 36 i0 (.agg #[.int .i64 0, .int .i64 0, .int .i64 0]) 3 24 Try.underlying22 HI.out HZ0.out HZ1.out HZ2.out rfl (by decide) _ na (rowsV wvV LA) rfl HO3.out B nb cb (rowsV wvV LB) rfl CB.out HLLB.out HX4.out (rows_one wvV_one LB) ?c2 ?c3 (hB3).size ?_
        case c2 => unfold maxLen; omega
        case c3 => omega
        intro w4v v4 hown hgrow hblk
        try simp only [Nat.zero_add, List.nil_append] at hown
        have HO4 := Lib.hid hown
        have hB4 : Below u.heap.size u v4 := (hB3).grown hgrow (hB3).size (fun r hr => (own_block HO3.out r hr).1)
        have zq4 : ∀ k, (w3v).ownBlock = some k → k ≠ zb := HQ3.out
        have zh4 : v4.heap[zb]? = v3.heap[zb]? := hgrow.block zb zl3 (fun e => zq4 zb (by first | exact e | exact e.symm) rfl)
        have Z4 : v4.cell? ⟨zb, 0, none⟩ = some (.int .i64 0) ∧ v4.cell? ⟨zb, 1, none⟩ = some (.int .i64 0) ∧ (∀ j, v4.frozen? ⟨zb, j, none⟩ = false) := ⟨by rw [World.cell?, zh4]; exact Z3.1, by rw [World.cell?, zh4]; exact Z3.2.1, fun j => by rw [World.frozen?, zh4]; exact Z3.2.2 j⟩
        have zl4 : zb < v4.heap.size := Nat.lt_of_lt_of_le zl3 hgrow.size
        have HQ4 : Hid (∀ k, (w4v).ownBlock = some k → k ≠ zb) := Lib.hid fun k hk => by (rcases hblk k hk with h9 | h9; exact zq4 k h9; (have := zl3; omega))
        clear zq4 zh4
        have hown2 : v4.ownsRow u.heap.size 36 3 w4v (LA ++ LB).length (rowsV wvV (LA ++ LB)) := by rw [rowsV_app, List.length_append, ← hna.out, ← hnb.out]; exact HO4.out
        obtain ⟨G, capg, hvg, hSg, _, _, _, _⟩ := SlRows_own (f := wvV) (n := 3) (fun _ => rfl) hown2
        rw [List.length_append, ← hna.out, ← hnb.out] at hvg
        subst hvg
        have HG4 := Lib.hid hSg
        clear hown2 hSg
        clear hown hgrow hblk
        refine hK.out _ _ (HS.out _ hB4) (fun hHeld => ?_)
        clear hK K
        try simp only [Act.put, sA, sB, sC]
        refine tkH 12 ⟨some 87, _, _, _, _, _⟩ ?_ rfl ?_ (by assumption) ?_
        rotate_left
        · (intro w hSw; (try dsimp only at hSw); go_simp; all_goals with_reducible rfl)
        try simp only [Act.put, sA, sB, sC]
        refine wpAnyH_ready (rs := [14]) (by kernel_rfl) (by simp) ?_
        refine AllReadyH.cons rfl (fun K hK => ?_) (AllReadyH.nil)
        go_simp
        refine (LevelAt_good (ma + mb) (LA ++ LB) G capg (na + nb) t z0 z1 _ (Lib.hid (by rw [List.length_append, ← hna.out, ← hnb.out])) (by omega) HG4 hE hz0 hz1).mono ?_
        rintro e v5 ⟨rfl, hb5⟩
        have hB5 : Below u.heap.size u v5 := (hB4).trans (hb5.mono (hB4).size)
        have Z5 : v5.cell? ⟨zb, 0, none⟩ = some (.int .i64 0) ∧ v5.cell? ⟨zb, 1, none⟩ = some (.int .i64 0) ∧ (∀ j, v5.frozen? ⟨zb, j, none⟩ = false) := ⟨by rw [(bcell hb5).1 _ _ zl4]; exact Z4.1, by rw [(bcell hb5).1 _ _ zl4]; exact Z4.2.1, fun j => by rw [(bcell hb5).2 _ _ zl4]; exact Z4.2.2 j⟩
        have zl5 : zb < v5.heap.size := Nat.lt_of_lt_of_le zl4 hb5.size
        go_wp2_with fail
        refine hK.out _ _ (HS.out _ hB5) (fun hHeld => ?_)
        clear hK K
        try simp only [Act.put, sA, sB, sC]
        refine tkH 15 ⟨some 74, _, _, _, _, _⟩ ?_ rfl ?_ (by assumption) ?_
        rotate_left
        · (intro w hSw; (try dsimp only at hSw); go_simp; all_goals with_reducible rfl)
        try simp only [Act.put, sA, sB, sC]
        refine tkH 16 ⟨some 90, _, _, _, _, _⟩ ?_ rfl ?_ (by assumption) ?_
        rotate_left
        · (intro w hSw; (try dsimp only at hSw); go_simp; all_goals with_reducible rfl)
        try simp only [Act.put, sA, sB, sC]
        refine tkH 17 ⟨some 91, _, _, _, _, _⟩ ?_ rfl ?_ (by assumption) ?_
        rotate_left
        · (intro w hSw; (try dsimp only at hSw); go_simp; all_goals with_reducible rfl)
        try simp only [Act.put, sA, sB, sC]
        obtain ⟨Zc0, Zc1, Zf⟩ := Z5
        refine wpAnyH_ready (rs := [19]) (by kernel_rfl) (by simp) ?_
        refine AllReadyH.cons rfl (fun K hK => ?_) (AllReadyH.nil)
        go_simp
        go_wp2_with fail
        refine hK.out _ _ ?_ (fun hHeld => ?_)
        rotate_left
        clear hK K
        try simp only [Act.put, sA, sB, sC]
        refine tkH 20 ⟨some 12, _, _, _, _, _⟩ ?_ rfl ?_ (by assumption) ?_
        rotate_left
        · (intro w hSw; (try dsimp only at hSw); go_simp; all_goals with_reducible rfl)
        try simp only [Act.put, sA, sB, sC]
        refine wpAnyH_done (by kernel_rfl) ?_ _
        go_wp2_with fail
        go_meet
        exact ⟨zb, rfl, rfl, by simp [go_sem, Zc0, Zc1], by simp [go_sem, Zc0, Zc1], by simpa using zl5, zge, by simpa using hB5.setCell (p := ⟨zb, 0, none⟩) zge _ |>.setCell (p := ⟨zb, 1, none⟩) zge _⟩
        · exact HS.out _ ((hB5.setCell (p := ⟨zb, 0, none⟩) zge _).setCell (p := ⟨zb, 1, none⟩) zge _)
    · skip
      go_simp
      go_wp2_with fail
      refine hK.out _ _ (HS.out _ ((hB0).alloc (hB0).size _)) (fun hHeld => ?_)
      clear hK K
      try simp only [Act.put, sA, sB, sC]
      obtain ⟨zb, ezb⟩ : ∃ x, v0.heap.size = x := ⟨_, rfl⟩
      generalize hq1 : v0.alloc (.cells #[.int .i64 0, .int .i64 0] 31) = v1
      have hb1 : Below v0.heap.size v0 v1 := by rw [← hq1]; exact (Below.refl _ _).alloc (Nat.le_refl _) _
      have Z1 : v1.cell? ⟨zb, 0, none⟩ = some (.int .i64 0) ∧ v1.cell? ⟨zb, 1, none⟩ = some (.int .i64 0) ∧ (∀ j, v1.frozen? ⟨zb, j, none⟩ = false) := by rw [← hq1, ← ezb]; exact ⟨by simp [go_sem], by simp [go_sem], fun j => by simp [go_sem]⟩
      have zl1 : zb < v1.heap.size := by rw [← hq1, ← ezb]; simp
      have zge : u.heap.size ≤ zb := by rw [← ezb]; exact (hB0).size
      have hB1 : Below u.heap.size u v1 := (hB0).trans (hb1.mono (hB0).size)
      rw [ezb]
      clear hq1
      refine wpAnyH_ready (rs := [5]) (by kernel_rfl) (by simp) ?_
      refine AllReadyH.cons rfl (fun K hK => ?_) (AllReadyH.nil)
      go_simp
      go_wp2_with fail
      refine hK.out _ _ (HS.out _ ((hB1).alloc (hB1).size _)) (fun hHeld => ?_)
      clear hK K
      try simp only [Act.put, sA, sB, sC]
      obtain ⟨bz, ebz⟩ : ∃ x, v1.heap.size = x := ⟨_, rfl⟩
      generalize hq2 : v1.alloc (.cells #[] 36) = v2
      have hb2 : Below v1.heap.size v1 v2 := by rw [← hq2]; exact (Below.refl _ _).alloc (Nat.le_refl _) _
      have HO2 : Hid (v2.ownsRow u.heap.size 36 3 (.slice (some ⟨bz, 0, none⟩) 0 0) 0 []) := Lib.hid (own_emptyS (by rw [← ebz]; exact (hB1).size) (by rw [← hq2, ← ebz]; exact heap_alloc_new _ _))
      have hB2 : Below u.heap.size u v2 := (hB1).trans (hb2.mono (hB1).size)
      have HQ2 : Hid (∀ k, (Value.slice (some ⟨bz, 0, none⟩) 0 0).ownBlock = some k → k ≠ zb) := Lib.hid fun k hk => by (simp [Value.ownBlock] at hk; have := zl1; omega)
      have Z2 : v2.cell? ⟨zb, 0, none⟩ = some (.int .i64 0) ∧ v2.cell? ⟨zb, 1, none⟩ = some (.int .i64 0) ∧ (∀ j, v2.frozen? ⟨zb, j, none⟩ = false) := ⟨by rw [(bcell hb2).1 _ _ zl1]; exact Z1.1, by rw [(bcell hb2).1 _ _ zl1]; exact Z1.2.1, fun j => by rw [(bcell hb2).2 _ _ zl1]; exact Z1.2.2 j⟩
      have zl2 : zb < v2.heap.size := Nat.lt_of_lt_of_le zl1 hb2.size
      rw [ebz]
      clear hq2
      refine wpAnyH_ready (rs := [8]) (by kernel_rfl) (by simp) ?_
      refine AllReadyH.cons rfl (fun K hK => ?_) (AllReadyH.nil)
      rw [if_pos (by kernel_rfl)]
      have HX3 := Lib.hid (wv_src (HA.out _ (hB2)))
      refine oper_append_sl _ _ 22 rfl u.heap.size 36 i0 (.agg #[.int .i64 0, .int .i64 0, .int .i64 0]) 3 24 Try.underlying22 HI.out HZ0.out HZ1.out HZ2.out rfl (by decide) _ 0 [] rfl HO2.out A na ca (rowsV wvV LA) rfl CA.out HLLA.out HX3.out (rows_one wvV_one LA) ?c2 ?c3 (hB2).size ?_
      case c2 => unfold maxLen; omega
      case c3 => omega
      intro w3v v3 hown hgrow hblk
      try simp only [Nat.zero_add, List.nil_append] at hown
      have HO3 := Lib.hid hown
      have hB3 : Below u.heap.size u v3 := (hB2).grown hgrow (hB2).size (fun r hr => (own_block HO2.out r hr).1)
      have zq3 : ∀ k, (Value.slice (some ⟨bz, 0, none⟩) 0 0).ownBlock = some k → k ≠ zb := HQ2.out
      have zh3 : v3.heap[zb]? = v2.heap[zb]? := hgrow.block zb zl2 (fun e => zq3 zb (by first | exact e | exact e.symm) rfl)
      have Z3 : v3.cell? ⟨zb, 0, none⟩ = some (.int .i64 0) ∧ v3.cell? ⟨zb, 1, none⟩ = some (.int .i64 0) ∧ (∀ j, v3.frozen? ⟨zb, j, none⟩ = false) := ⟨by rw [World.cell?, zh3]; exact Z2.1, by rw [World.cell?, zh3]; exact Z2.2.1, fun j => by rw [World.frozen?, zh3]; exact Z2.2.2 j⟩
      have zl3 : zb < v3.heap.size := Nat.lt_of_lt_of_le zl2 hgrow.size
      have HQ3 : Hid (∀ k, (w3v).ownBlock = some k → k ≠ zb) := Lib.hid fun k hk => by (rcases hblk k hk with h9 | h9; exact zq3 k h9; (have := zl2; omega))
      clear zq3 zh3
      clear hown hgrow hblk
      refine hK.out _ _ (HS.out _ hB3) (fun hHeld => ?_)
      clear hK K
      try simp only [Act.put, sA, sB, sC]
      refine wpAnyH_ready (rs := [11]) (by kernel_rfl) (by simp) ?_
      refine AllReadyH.cons rfl (fun K hK => ?_) (AllReadyH.nil)
      rw [if_pos (by kernel_rfl)]
      have HX4 := Lib.hid (wv_src (HB.out _ (hB3)))
      refine oper_append_sl _ _ 22 rfl u.heap.size 36 i0 (.agg #[.int .i64 0, .int .i64 0, .int .i64 0]) 3 24 Try.underlying22 HI.out HZ0.out HZ1.out HZ2.out rfl (by decide) _ na (rowsV wvV LA) rfl HO3.out B nb cb (rowsV wvV LB) rfl CB.out HLLB.out HX4.out (rows_one wvV_one LB) ?c2 ?c3 (hB3).size ?_
      case c2 => unfold maxLen; omega
      case c3 => omega
      intro w4v v4 hown hgrow hblk
      try simp only [Nat.zero_add, List.nil_append] at hown
      have HO4 := Lib.hid hown
      have hB4 : Below u.heap.size u v4 := (hB3).grown hgrow (hB3).size (fun r hr => (own_block HO3.out r hr).1)
      have zq4 : ∀ k, (w3v).ownBlock = some k → k ≠ zb := HQ3.out
      have zh4 : v4.heap[zb]? = v3.heap[zb]? := hgrow.block zb zl3 (fun e => zq4 zb (by first | exact e | exact e.symm) rfl)
      have Z4 : v4.cell? ⟨zb, 0, none⟩ = some (.int .i64 0) ∧ v4.cell? ⟨zb, 1, none⟩ = some (.int .i64 0) ∧ (∀ j, v4.frozen? ⟨zb, j, none⟩ = false) := ⟨by rw [World.cell?, zh4]; exact Z3.1, by rw [World.cell?, zh4]; exact Z3.2.1, fun j => by rw [World.frozen?, zh4]; exact Z3.2.2 j⟩
      have zl4 : zb < v4.heap.size := Nat.lt_of_lt_of_le zl3 hgrow.size
      have HQ4 : Hid (∀ k, (w4v).ownBlock = some k → k ≠ zb) := Lib.hid fun k hk => by (rcases hblk k hk with h9 | h9; exact zq4 k h9; (have := zl3; omega))
      clear zq4 zh4
      have hown2 : v4.ownsRow u.heap.size 36 3 w4v (LA ++ LB).length (rowsV wvV (LA ++ LB)) := by rw [rowsV_app, List.length_append, ← hna.out, ← hnb.out]; exact HO4.out
      obtain ⟨G, capg, hvg, hSg, _, _, _, _⟩ := SlRows_own (f := wvV) (n := 3) (fun _ => rfl) hown2
      rw [List.length_append, ← hna.out, ← hnb.out] at hvg
      subst hvg
      have HG4 := Lib.hid hSg
      clear hown2 hSg
      clear hown hgrow hblk
      refine hK.out _ _ (HS.out _ hB4) (fun hHeld => ?_)
      clear hK K
      try simp only [Act.put, sA, sB, sC]
      refine tkH 12 ⟨some 87, _, _, _, _, _⟩ ?_ rfl ?_ (by assumption) ?_
      rotate_left
      · (intro w hSw; (try dsimp only at hSw); go_simp; all_goals with_reducible rfl)
      try simp only [Act.put, sA, sB, sC]
      refine wpAnyH_ready (rs := [14]) (by kernel_rfl) (by simp) ?_
      refine AllReadyH.cons rfl (fun K hK => ?_) (AllReadyH.nil)
      go_simp
      refine (LevelAt_good (ma + mb) (LA ++ LB) G capg (na + nb) t z0 z1 _ (Lib.hid (by rw [List.length_append, ← hna.out, ← hnb.out])) (by omega) HG4 hE hz0 hz1).mono ?_
      rintro e v5 ⟨rfl, hb5⟩
      have hB5 : Below u.heap.size u v5 := (hB4).trans (hb5.mono (hB4).size)
      have Z5 : v5.cell? ⟨zb, 0, none⟩ = some (.int .i64 0) ∧ v5.cell? ⟨zb, 1, none⟩ = some (.int .i64 0) ∧ (∀ j, v5.frozen? ⟨zb, j, none⟩ = false) := ⟨by rw [(bcell hb5).1 _ _ zl4]; exact Z4.1, by rw [(bcell hb5).1 _ _ zl4]; exact Z4.2.1, fun j => by rw [(bcell hb5).2 _ _ zl4]; exact Z4.2.2 j⟩
      have zl5 : zb < v5.heap.size := Nat.lt_of_lt_of_le zl4 hb5.size
      go_wp2_with fail
      refine hK.out _ _ (HS.out _ hB5) (fun hHeld => ?_)
      clear hK K
      try simp only [Act.put, sA, sB, sC]
      refine tkH 15 ⟨some 74, _, _, _, _, _⟩ ?_ rfl ?_ (by assumption) ?_
      rotate_left
      · (intro w hSw; (try dsimp only at hSw); go_simp; all_goals with_reducible rfl)
      try simp only [Act.put, sA, sB, sC]
      refine tkH 16 ⟨some 90, _, _, _, _, _⟩ ?_ rfl ?_ (by assumption) ?_
      rotate_left
      · (intro w hSw; (try dsimp only at hSw); go_simp; all_goals with_reducible rfl)
      try simp only [Act.put, sA, sB, sC]
      refine tkH 17 ⟨some 91, _, _, _, _, _⟩ ?_ rfl ?_ (by assumption) ?_
      rotate_left
      · (intro w hSw; (try dsimp only at hSw); go_simp; all_goals with_reducible rfl)
      try simp only [Act.put, sA, sB, sC]
      obtain ⟨Zc0, Zc1, Zf⟩ := Z5
      refine wpAnyH_ready (rs := [19]) (by kernel_rfl) (by simp) ?_
      refine AllReadyH.cons rfl (fun K hK => ?_) (AllReadyH.nil)
      go_simp
      go_wp2_with fail
      refine hK.out _ _ ?_ (fun hHeld => ?_)
      rotate_left
      clear hK K
      try simp only [Act.put, sA, sB, sC]
      refine tkH 20 ⟨some 12, _, _, _, _, _⟩ ?_ rfl ?_ (by assumption) ?_
      rotate_left
      · (intro w hSw; (try dsimp only at hSw); go_simp; all_goals with_reducible rfl)
      try simp only [Act.put, sA, sB, sC]
      refine wpAnyH_done (by kernel_rfl) ?_ _
      go_wp2_with fail
      go_meet
      exact ⟨zb, rfl, rfl, by simp [go_sem, Zc0, Zc1], by simp [go_sem, Zc0, Zc1], by simpa using zl5, zge, by simpa using hB5.setCell (p := ⟨zb, 0, none⟩) zge _ |>.setCell (p := ⟨zb, 1, none⟩) zge _⟩
      · exact HS.out _ ((hB5.setCell (p := ⟨zb, 0, none⟩) zge _).setCell (p := ⟨zb, 1, none⟩) zge _)
  case rest =>
    obtain ⟨zb, rfl, rfl, cz0, cz1, zl, zge, hBx⟩ := hcut
    obtain ⟨s1, s2, _, _⟩ := HS.out _ hBx
    have d0 : wc.cell? ⟨p7, 0, none⟩ = some (.int .i64 x0) := (hBx.cell (p := ⟨_, 0, none⟩) up7).trans ux0
    have d1 : wc.cell? ⟨p7, 1, none⟩ = some (.int .i64 x1) := (hBx.cell (p := ⟨_, 1, none⟩) up7).trans ux1
    have d2 : wc.cell? ⟨p9, 0, none⟩ = some (.int .i64 y0) := (hBx.cell (p := ⟨_, 0, none⟩) up9).trans uy0
    have d3 : wc.cell? ⟨p9, 1, none⟩ = some (.int .i64 y1) := (hBx.cell (p := ⟨_, 1, none⟩) up9).trans uy1
    have hsz := hBx.size
    have hBw : Below w.heap.size w wc := hBu.trans (hBx.mono hBu.size)
    have q3 : w.heap.size < wc.heap.size := by omega
    have q4 : wc.heap.size ≠ w.heap.size := by omega
    have q7 : p7 < wc.heap.size := by omega
    have q8 : p7 ≠ wc.heap.size := by omega
    have q9 : wc.heap.size ≠ p7 := by omega
    have HAc : Hid (∀ V, Below wc.heap.size wc V → SlRows wvV 3 V A LA) := Lib.hid fun V hV => (HRA.out wc hBw).below hV
    clear HS HA HB hs7 ux0 ux1 uy0 uy1 hBx hBu
    go_wp2_with (first | (go_at_call 7; ((with_reducible refine (bW_is _ _ _ true _ hv0).mono ?_)); rintro e w' ⟨rfl, rfl⟩) | (go_at_call 7; ((with_reducible refine (bW_is _ _ _ true _ hv1).mono ?_)); rintro e w' ⟨rfl, rfl⟩))
    go_loopw [14] (fun i wr => ∃ (k : Nat) (G : Option Addr) (cg : Nat), i = .int .i64 k ∧ k ≤ na ∧ Hid (wr.ownsRow (wc.heap.size + 1) 36 3 (.slice G k cg) k (rowsV wvV ((LA.map turnW).take k))) ∧ wr.cell? ⟨wc.heap.size, 0, none⟩ = some (.int .i64 (-ma)) ∧ wr.cell? ⟨wc.heap.size, 1, none⟩ = some (.slice G k cg) ∧ (∀ j, wr.frozen? ⟨wc.heap.size, j, none⟩ = false) ∧ wc.heap.size + 1 ≤ wr.heap.size ∧ Below wc.heap.size wc wr) (fun i _ => na - (intOf i).toNat)
    case atStart => exact ⟨0, none, 0, rfl, by omega, Lib.hid ⟨rfl, .inl ⟨rfl, rfl⟩⟩, by simp [go_sem], by simp [go_sem], by intro j; simp [go_sem], by simp, (by (repeat (first | (with_reducible refine Below.drew ?_) | (with_reducible refine below_drewN ?_ _) | (with_reducible refine Below.alloc ?_ (by first | omega | (simp; done) | (simp; omega) | (simp at *; omega)) _) | (with_reducible refine Below.setCell ?_ (by first | omega | (simp; done) | (simp; omega) | (simp at *; omega)) _) | (with_reducible exact Below.refl _ _) | (with_reducible assumption) | (with_reducible refine Below.trans ?_ (Below.mono (by assumption) (by first | omega | (simp; done) | (simp; omega) | (simp at *; omega)))))))⟩
    case round =>
      obtain ⟨k, G, cg, rfl, hk, HO, c0, c1, fz, sz, hB⟩ := hrel
      have r1 := (hB.cell (p := ⟨w.heap.size, 1, none⟩) q3).trans s2
      have r2 := (hB.cell (p := ⟨p7, 0, none⟩) q7).trans d0
      have r3 := (hB.cell (p := ⟨p7, 1, none⟩) q7).trans d1
      have m1 : wc.heap.size < wr.heap.size := by omega
      have m2 : wr.heap.size ≠ wc.heap.size := by omega
      have m3 : wc.heap.size ≠ wr.heap.size := by omega
      have m4 : w.heap.size < wr.heap.size := by omega
      have m5 : wr.heap.size ≠ w.heap.size := by omega
      have m6 : p7 < wr.heap.size := by omega
      have m7 : wr.heap.size ≠ p7 := by omega
      have m8 : wc.heap.size < wr.heap.size + 1 := by omega
      have m9 : p7 ≠ wr.heap.size := by omega
      have m10 : w.heap.size ≠ wr.heap.size := by omega
      by_cases hkn : k < na
      · have hkl : k < LA.length := by have := hna.out; omega
        have kn : (k : Int) < (na : Int) := by omega
        rcases HAc.out _ hB with h0 | ⟨ab, aoff, rfl, hlt, hRa⟩
        · rw [h0] at hkl; simp at hkl
        obtain ⟨e0, e1, e2⟩ := wv_at hRa hkl
        have hok := hWA.out _ (List.getElem_mem hkl)
        have htk : ((LA.map turnW).take (k + 1)) = (LA.map turnW).take k ++ [turnW LA[k]] := by rw [List.take_succ_eq_append_getElem (by rw [List.length_map]; exact hkl), List.getElem_map]
        obtain ⟨⟨h, p, f⟩, hq⟩ : ∃ x, Hid (LA[k] = x) := ⟨LA[k], Lib.hid rfl⟩
        rw [hq.out] at e0 e1 e2 hok htk
        dsimp only at e0 e1 e2
        have f0 : 0 ≤ f := hok.f0
        have f1 : f ≤ 4095 := hok.f1
        obtain ⟨g, hg⟩ : ∃ g, Hid ((f + 2048) % 4096 = g) := ⟨_, Lib.hid rfl⟩
        have hM : Hid (∀ w, Calls Try.prog 10 #[.int .i64 (f + 2048), .int .i64 4096] w fun e w' => e = .returned (.int .i64 g) ∧ w = w') := Lib.hid fun w => by
          have := Mod_pos (f + 2048) 4096 w (by omega) (by omega) (by omega) (by omega)
          rw [hg.out] at this; exact this
        have i5 : IntKind.i64.wrap (f + 2048) = f + 2048 := IntWalk.i64_in _ (by omega)
        have HTK : Hid (rowsV wvV ((LA.map turnW).take (k + 1)) = rowsV wvV ((LA.map turnW).take k) ++ [.int .i64 h, .int .i64 p, .int .i64 g]) := Lib.hid (by rw [htk, rowsV_app]; unfold turnW; simp [rowsV, wvV, hg.out])
        have hlen : ((LA.map turnW).take (k + 1)).length = k + 1 := by simp; omega
        have HLEN := Lib.hid hlen
        clear htk hRa hlen
        go_wp2_with (first
          | (go_at_call 10; ((with_reducible refine (hM.out _).mono ?_)); rintro e w' ⟨rfl, rfl⟩)
          | (at_builtin; refine wpList_append_own_at _ rfl _ _ 22 rfl (wc.heap.size + 1) 36 i0 (.agg #[.int .i64 0, .int .i64 0, .int .i64 0]) 3 24 Try.underlying22 HI.out HZ0.out HZ1.out HZ2.out rfl (by decide) _ _ _ rfl (own_below HO.out (by exact (by (repeat (first | (with_reducible refine Below.drew ?_) | (with_reducible refine below_drewN ?_ _) | (with_reducible refine Below.alloc ?_ (by first | omega | (simp; done) | (simp; omega) | (simp at *; omega)) _) | (with_reducible refine Below.setCell ?_ (by first | omega | (simp; done) | (simp; omega) | (simp at *; omega)) _) | (with_reducible exact Below.refl _ _) | (with_reducible assumption) | (with_reducible refine Below.trans ?_ (Below.mono (by assumption) (by first | omega | (simp; done) | (simp; omega) | (simp at *; omega)))))))) (Nat.le_refl _)) ⟨wr.heap.size + 1, 0, none⟩ 1 1 [.int .i64 h, .int .i64 p, .int .i64 g] rfl rfl ?a0 ?a1 ?a2 ?a3 ?a4 ?_))
        case a0 =>
          intro j v hj
          match j, hj with
          | 0, hj => simp at hj; subst hj; simp [Addr.add, go_sem]
          | 1, hj => simp at hj; subst hj; simp [Addr.add, go_sem]
          | 2, hj => simp at hj; subst hj; simp [Addr.add, go_sem]
        case a1 => intro v hv; simp at hv; rcases hv with rfl | rfl | rfl <;> rfl
        case a2 => unfold maxLen; omega
        case a3 => omega
        case a4 => simp; omega
        intro v' w5 hown hgrow hnn hblk
        have ob := own_block HO.out
        have hB5 : Below wc.heap.size wc w5 := Below.grown (by exact (by (repeat (first | (with_reducible refine Below.drew ?_) | (with_reducible refine below_drewN ?_ _) | (with_reducible refine Below.alloc ?_ (by first | omega | (simp; done) | (simp; omega) | (simp at *; omega)) _) | (with_reducible refine Below.setCell ?_ (by first | omega | (simp; done) | (simp; omega) | (simp at *; omega)) _) | (with_reducible exact Below.refl _ _) | (with_reducible assumption) | (with_reducible refine Below.trans ?_ (Below.mono (by assumption) (by first | omega | (simp; done) | (simp; omega) | (simp at *; omega)))))))) hgrow (by simp; omega) (fun q hq => by have := (ob q hq).1; omega)
        have hB6 := (Below.refl (wc.heap.size + 1) _).grown hgrow (by simp; omega) (fun q hq => (ob q hq).1)
        have y0 : w5.cell? ⟨wc.heap.size, 0, none⟩ = some (.int .i64 (-ma)) := by rw [hB6.cell (p := ⟨wc.heap.size, 0, none⟩) (Nat.lt_succ_self _)]; simp [go_sem, *]
        have y1 : w5.cell? ⟨wc.heap.size, 1, none⟩ = some (.slice G k cg) := by rw [hB6.cell (p := ⟨wc.heap.size, 1, none⟩) (Nat.lt_succ_self _)]; simp [go_sem, *]
        have yf : ∀ j, w5.frozen? ⟨wc.heap.size, j, none⟩ = false := fun j => by rw [hB6.frozen (p := ⟨wc.heap.size, j, none⟩) (Nat.lt_succ_self _)]; simp [go_sem, *]
        have z5 := hgrow.size
        simp at z5
        have hown2 : w5.ownsRow (wc.heap.size + 1) 36 3 v' ((LA.map turnW).take (k + 1)).length (rowsV wvV ((LA.map turnW).take (k + 1))) := by rw [HLEN.out, HTK.out]; exact hown
        have HO5 := Lib.hid hown2
        obtain ⟨G5, cg5, hv5, _, _, _, _, _⟩ := SlRows_own (f := wvV) (n := 3) (fun _ => rfl) hown2
        rw [HLEN.out] at hv5
        subst hv5
        have HO6 : Hid (w5.ownsRow (wc.heap.size + 1) 36 3 (.slice G5 (k + 1) cg5) (k + 1) (rowsV wvV ((LA.map turnW).take (k + 1)))) := Lib.hid (by have := HO5.out; rw [HLEN.out] at this; exact this)
        clear hown hown2 hgrow hnn hblk HO5 hB6 ob c0 c1 fz e0 e1 e2
        go_wp2
        go_roundw
        case rel => exact ⟨k + 1, G5, cg5, by go_num, by omega, Lib.hid (ownsRow_setCell_below HO6.out (Nat.lt_succ_self _) _), by simp [go_sem, *], by simp [go_sem, *], by intro j; simp [go_sem, *], by simp; omega, (by (repeat (first | (with_reducible refine Below.drew ?_) | (with_reducible refine below_drewN ?_ _) | (with_reducible refine Below.alloc ?_ (by first | omega | (simp; done) | (simp; omega) | (simp at *; omega)) _) | (with_reducible refine Below.setCell ?_ (by first | omega | (simp; done) | (simp; omega) | (simp at *; omega)) _) | (with_reducible exact Below.refl _ _) | (with_reducible assumption) | (with_reducible refine Below.trans ?_ (Below.mono (by assumption) (by first | omega | (simp; done) | (simp; omega) | (simp at *; omega)))))))⟩
        case measure => (simp [intOf]) <;> omega
      · have hkk : k = na := by omega
        subst hkk
        have hT : (LA.map turnW).take k = LA.map turnW := List.take_of_length_le (by rw [List.length_map, ← hna.out]; exact Nat.le_refl _)
        have hown := HO.out
        rw [hT] at hown
        have hown2 : wr.ownsRow (wc.heap.size + 1) 36 3 (.slice G k cg) (LA.map turnW).length (rowsV wvV (LA.map turnW)) := by rw [List.length_map, ← hna.out]; exact hown
        obtain ⟨G5, cg5, hv5, hS5, _, _, _, _⟩ := SlRows_own (f := wvV) (n := 3) (fun _ => rfl) hown2
        rw [List.length_map, ← hna.out] at hv5
        injection hv5 with hv6 hv7 hv8
        subst hv6
        have HS5 := Lib.hid hS5
        have HN5 : Hid (k = (LA.map turnW).length) := Lib.hid (by rw [List.length_map]; exact hna.out)
        clear hT hown hown2 hS5 hv7 hv8
        go_wp2_with fail
        refine (LevelAt_good (-ma) (LA.map turnW) G cg k t (-x1) (-x0) _ HN5 na1 HS5 hlo hu0 hu1).mono ?_
        rintro e w6 ⟨rfl, hb6⟩
        have z6 := hb6.size
        have t0 : w6.cell? ⟨p7, 0, none⟩ = some (.int .i64 x0) := (hb6.cell (p := ⟨p7, 0, none⟩) m6).trans r2
        have t1 : w6.cell? ⟨p7, 1, none⟩ = some (.int .i64 x1) := (hb6.cell (p := ⟨p7, 1, none⟩) m6).trans r3
        have o1 : p7 < w6.heap.size := by omega
        have o2 : w6.heap.size ≠ p7 := by omega
        have o3 : p7 ≠ w6.heap.size := by omega
        have hB6 : Below w.heap.size w w6 := hBw.trans ((hB.trans (hb6.mono hB.size)).mono hBw.size)
        have o4 : w.heap.size ≤ w6.heap.size := hB6.size
        clear hb6 c0 c1 fz
        go_wp2
        go_ret
        exact ⟨rfl, (by (repeat (first | (with_reducible refine Below.drew ?_) | (with_reducible refine below_drewN ?_ _) | (with_reducible refine Below.alloc ?_ (by first | omega | (simp; done) | (simp; omega) | (simp at *; omega)) _) | (with_reducible refine Below.setCell ?_ (by first | omega | (simp; done) | (simp; omega) | (simp at *; omega)) _) | (with_reducible exact Below.refl _ _) | (with_reducible assumption) | (with_reducible refine Below.trans ?_ (Below.mono (by assumption) (by first | omega | (simp; done) | (simp; omega) | (simp at *; omega)))))))⟩
end Go.Proofs.Ytallnjehhoengaa
