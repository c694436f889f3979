/- SiteAngles: the statement returns true for all waves and minutes. -/
import Derived.Test.YtallnjehhoengaaGreatSAng2
import Derived.Outline
namespace Go.Proofs.YtallnjehhoengaaGreat
open Go.ChangeShapes Go.WideShapes Go.ChangeAt Go.RowKit
set_option linter.unusedVariables false
set_option linter.unusedSimpArgs false
attribute [local go_sem ↓] Go.wp_at_zero Go.wp_at_succ
set_option maxRecDepth 100000 in
set_option maxHeartbeats 2000000 in
theorem siteAngles_w (h p f t F : Int) (w : World) (hE : Hid (anE ⟨h, p, f⟩ t = F)) (hz : (F != 0) = true) (hW : Hid (wvE ⟨h, p, f⟩ = F)) :
    Calls Tryz.prog 4 #[.agg #[.int .i64 h, .int .i64 p, .int .i64 f], .int .i64 t] w fun e w' => e = .returned (.bool true) ∧ Below w.heap.size w w' := by
  have hM : Hid (inB t 0 1000000 = inB t 0 1000000) := Lib.hid rfl
  have hz2 : (F == 0) = false := by simpa [bne] using hz
  go_enter Tryz.func4, Tryz.ntmps4
  go_wp2_with fail
  refine (awake_any _).mono ?_
  rintro e w1 ⟨rfl, hb1⟩
  have za := hb1.size
  try simp at za
  have a_0 : w1.cell? ⟨w.heap.size, 0, none⟩ = some (.int .i64 h) := by rw [(bcell hb1).1 _ _ (by first | (simp; done) | (simp; omega) | omega)]; simp [go_sem, World.cell?_alloc_past, *]
  have a_1 : w1.cell? ⟨w.heap.size, 1, none⟩ = some (.int .i64 p) := by rw [(bcell hb1).1 _ _ (by first | (simp; done) | (simp; omega) | omega)]; simp [go_sem, World.cell?_alloc_past, *]
  have a_2 : w1.cell? ⟨w.heap.size, 2, none⟩ = some (.int .i64 f) := by rw [(bcell hb1).1 _ _ (by first | (simp; done) | (simp; omega) | omega)]; simp [go_sem, World.cell?_alloc_past, *]
  have ao0 : w.heap.size < w1.heap.size := by omega
  have an0 : w1.heap.size ≠ w.heap.size := by omega
  have am0 : w.heap.size ≠ w1.heap.size := by omega
  have ap0 : w.heap.size < w1.heap.size + 1 := by omega
  have hBa : Below w.heap.size w w1 := (by (repeat (first | (with_reducible refine Below.drew ?_) | (with_reducible refine below_drewN ?_ _) | (with_reducible refine Below.alloc ?_ (by first | omega | (simp; done) | (simp; omega) | (simp at *; omega)) _) | (with_reducible refine Below.setCell ?_ (by first | omega | (simp; done) | (simp; omega) | (simp at *; omega)) _) | (with_reducible exact Below.refl _ _) | (with_reducible assumption) | (with_reducible refine Below.trans ?_ (Below.mono (by assumption) (by first | omega | (simp; done) | (simp; omega) | (simp at *; omega)))))))
  clear hb1 
  go_wp2_with fail
  refine (AngleAt_bad h p f t F _ hE hz).mono ?_
  rintro e w2 ⟨rfl, hb2⟩
  have zb := hb2.size
  try simp at zb
  have b_0 : w2.cell? ⟨w.heap.size, 0, none⟩ = some (.int .i64 h) := by rw [(bcell hb2).1 _ _ (by first | (simp; done) | (simp; omega) | omega)]; simp [go_sem, World.cell?_alloc_past, *]
  have b_1 : w2.cell? ⟨w.heap.size, 1, none⟩ = some (.int .i64 p) := by rw [(bcell hb2).1 _ _ (by first | (simp; done) | (simp; omega) | omega)]; simp [go_sem, World.cell?_alloc_past, *]
  have b_2 : w2.cell? ⟨w.heap.size, 2, none⟩ = some (.int .i64 f) := by rw [(bcell hb2).1 _ _ (by first | (simp; done) | (simp; omega) | omega)]; simp [go_sem, World.cell?_alloc_past, *]
  have bo0 : w.heap.size < w2.heap.size := by omega
  have bn0 : w2.heap.size ≠ w.heap.size := by omega
  have bm0 : w.heap.size ≠ w2.heap.size := by omega
  have bp0 : w.heap.size < w2.heap.size + 1 := by omega
  have hBb : Below w.heap.size w w2 := (by (repeat (first | (with_reducible refine Below.drew ?_) | (with_reducible refine below_drewN ?_ _) | (with_reducible refine Below.alloc ?_ (by first | omega | (simp; done) | (simp; omega) | (simp at *; omega)) _) | (with_reducible refine Below.setCell ?_ (by first | omega | (simp; done) | (simp; omega) | (simp at *; omega)) _) | (with_reducible exact Below.refl _ _) | (with_reducible assumption) | (with_reducible refine Below.trans ?_ (Below.mono (by assumption) (by first | omega | (simp; done) | (simp; omega) | (simp at *; omega)))))))
  clear hb2 a_0 a_1 a_2 ao0 an0 am0 ap0
  go_wp2_with fail
  refine (refWave_is h p f F _ hW).mono ?_
  rintro e w3 ⟨rfl, hb3⟩
  have zc := hb3.size
  try simp at zc
  have c_0 : w3.cell? ⟨w.heap.size, 0, none⟩ = some (.int .i64 h) := by rw [(bcell hb3).1 _ _ (by first | (simp; done) | (simp; omega) | omega)]; simp [go_sem, World.cell?_alloc_past, *]
  have c_1 : w3.cell? ⟨w.heap.size, 1, none⟩ = some (.int .i64 p) := by rw [(bcell hb3).1 _ _ (by first | (simp; done) | (simp; omega) | omega)]; simp [go_sem, World.cell?_alloc_past, *]
  have c_2 : w3.cell? ⟨w.heap.size, 2, none⟩ = some (.int .i64 f) := by rw [(bcell hb3).1 _ _ (by first | (simp; done) | (simp; omega) | omega)]; simp [go_sem, World.cell?_alloc_past, *]
  have c_3 : w3.cell? ⟨w2.heap.size, 0, none⟩ = some (.int .i64 0) := by rw [(bcell hb3).1 _ _ (by first | (simp; done) | (simp; omega) | omega)]; simp [go_sem, World.cell?_alloc_past, *]
  have c_4 : w3.cell? ⟨w2.heap.size, 1, none⟩ = some (.int .i64 0) := by rw [(bcell hb3).1 _ _ (by first | (simp; done) | (simp; omega) | omega)]; simp [go_sem, World.cell?_alloc_past, *]
  have co0 : w.heap.size < w3.heap.size := by omega
  have cn0 : w3.heap.size ≠ w.heap.size := by omega
  have cm0 : w.heap.size ≠ w3.heap.size := by omega
  have cp0 : w.heap.size < w3.heap.size + 1 := by omega
  have co1 : w2.heap.size < w3.heap.size := by omega
  have cn1 : w3.heap.size ≠ w2.heap.size := by omega
  have cm1 : w2.heap.size ≠ w3.heap.size := by omega
  have cp1 : w2.heap.size < w3.heap.size + 1 := by omega
  have hBc : Below w.heap.size w w3 := (by (repeat (first | (with_reducible refine Below.drew ?_) | (with_reducible refine below_drewN ?_ _) | (with_reducible refine Below.alloc ?_ (by first | omega | (simp; done) | (simp; omega) | (simp at *; omega)) _) | (with_reducible refine Below.setCell ?_ (by first | omega | (simp; done) | (simp; omega) | (simp at *; omega)) _) | (with_reducible exact Below.refl _ _) | (with_reducible assumption) | (with_reducible refine Below.trans ?_ (Below.mono (by assumption) (by first | omega | (simp; done) | (simp; omega) | (simp at *; omega)))))))
  clear hb3 b_0 b_1 b_2 bo0 bn0 bm0 bp0
  go_wp2_with ((go_at_call 23; ((with_reducible refine (isMin_is _ _ _ hM).mono ?_)); rintro e w' ⟨rfl, rfl⟩))
  go_ret
  exact ⟨rfl, hBc⟩
set_option maxRecDepth 100000 in
set_option maxHeartbeats 2000000 in
theorem siteAngles_m (h p f t E F : Int) (w : World) (hE : Hid (anE ⟨h, p, f⟩ t = E)) (hE2 : E = 2) (hW : Hid (wvE ⟨h, p, f⟩ = F)) (hF : F = 0) (hM : Hid (inB t 0 1000000 = false)) :
    Calls Tryz.prog 4 #[.agg #[.int .i64 h, .int .i64 p, .int .i64 f], .int .i64 t] w fun e w' => e = .returned (.bool true) ∧ Below w.heap.size w w' := by
  subst hF hE2
  have hz : ((2 : Int) != 0) = true := by decide
  go_enter Tryz.func4, Tryz.ntmps4
  go_wp2_with fail
  refine (awake_any _).mono ?_
  rintro e w1 ⟨rfl, hb1⟩
  have za := hb1.size
  try simp at za
  have a_0 : w1.cell? ⟨w.heap.size, 0, none⟩ = some (.int .i64 h) := by rw [(bcell hb1).1 _ _ (by first | (simp; done) | (simp; omega) | omega)]; simp [go_sem, World.cell?_alloc_past, *]
  have a_1 : w1.cell? ⟨w.heap.size, 1, none⟩ = some (.int .i64 p) := by rw [(bcell hb1).1 _ _ (by first | (simp; done) | (simp; omega) | omega)]; simp [go_sem, World.cell?_alloc_past, *]
  have a_2 : w1.cell? ⟨w.heap.size, 2, none⟩ = some (.int .i64 f) := by rw [(bcell hb1).1 _ _ (by first | (simp; done) | (simp; omega) | omega)]; simp [go_sem, World.cell?_alloc_past, *]
  have ao0 : w.heap.size < w1.heap.size := by omega
  have an0 : w1.heap.size ≠ w.heap.size := by omega
  have am0 : w.heap.size ≠ w1.heap.size := by omega
  have ap0 : w.heap.size < w1.heap.size + 1 := by omega
  have hBa : Below w.heap.size w w1 := (by (repeat (first | (with_reducible refine Below.drew ?_) | (with_reducible refine below_drewN ?_ _) | (with_reducible refine Below.alloc ?_ (by first | omega | (simp; done) | (simp; omega) | (simp at *; omega)) _) | (with_reducible refine Below.setCell ?_ (by first | omega | (simp; done) | (simp; omega) | (simp at *; omega)) _) | (with_reducible exact Below.refl _ _) | (with_reducible assumption) | (with_reducible refine Below.trans ?_ (Below.mono (by assumption) (by first | omega | (simp; done) | (simp; omega) | (simp at *; omega)))))))
  clear hb1 
  go_wp2_with fail
  refine (AngleAt_bad h p f t 2 _ hE hz).mono ?_
  rintro e w2 ⟨rfl, hb2⟩
  have zb := hb2.size
  try simp at zb
  have b_0 : w2.cell? ⟨w.heap.size, 0, none⟩ = some (.int .i64 h) := by rw [(bcell hb2).1 _ _ (by first | (simp; done) | (simp; omega) | omega)]; simp [go_sem, World.cell?_alloc_past, *]
  have b_1 : w2.cell? ⟨w.heap.size, 1, none⟩ = some (.int .i64 p) := by rw [(bcell hb2).1 _ _ (by first | (simp; done) | (simp; omega) | omega)]; simp [go_sem, World.cell?_alloc_past, *]
  have b_2 : w2.cell? ⟨w.heap.size, 2, none⟩ = some (.int .i64 f) := by rw [(bcell hb2).1 _ _ (by first | (simp; done) | (simp; omega) | omega)]; simp [go_sem, World.cell?_alloc_past, *]
  have bo0 : w.heap.size < w2.heap.size := by omega
  have bn0 : w2.heap.size ≠ w.heap.size := by omega
  have bm0 : w.heap.size ≠ w2.heap.size := by omega
  have bp0 : w.heap.size < w2.heap.size + 1 := by omega
  have hBb : Below w.heap.size w w2 := (by (repeat (first | (with_reducible refine Below.drew ?_) | (with_reducible refine below_drewN ?_ _) | (with_reducible refine Below.alloc ?_ (by first | omega | (simp; done) | (simp; omega) | (simp at *; omega)) _) | (with_reducible refine Below.setCell ?_ (by first | omega | (simp; done) | (simp; omega) | (simp at *; omega)) _) | (with_reducible exact Below.refl _ _) | (with_reducible assumption) | (with_reducible refine Below.trans ?_ (Below.mono (by assumption) (by first | omega | (simp; done) | (simp; omega) | (simp at *; omega)))))))
  clear hb2 a_0 a_1 a_2 ao0 an0 am0 ap0
  go_wp2_with fail
  refine (refWave_is h p f 0 _ hW).mono ?_
  rintro e w3 ⟨rfl, hb3⟩
  have zc := hb3.size
  try simp at zc
  have c_0 : w3.cell? ⟨w.heap.size, 0, none⟩ = some (.int .i64 h) := by rw [(bcell hb3).1 _ _ (by first | (simp; done) | (simp; omega) | omega)]; simp [go_sem, World.cell?_alloc_past, *]
  have c_1 : w3.cell? ⟨w.heap.size, 1, none⟩ = some (.int .i64 p) := by rw [(bcell hb3).1 _ _ (by first | (simp; done) | (simp; omega) | omega)]; simp [go_sem, World.cell?_alloc_past, *]
  have c_2 : w3.cell? ⟨w.heap.size, 2, none⟩ = some (.int .i64 f) := by rw [(bcell hb3).1 _ _ (by first | (simp; done) | (simp; omega) | omega)]; simp [go_sem, World.cell?_alloc_past, *]
  have c_3 : w3.cell? ⟨w2.heap.size, 0, none⟩ = some (.int .i64 0) := by rw [(bcell hb3).1 _ _ (by first | (simp; done) | (simp; omega) | omega)]; simp [go_sem, World.cell?_alloc_past, *]
  have c_4 : w3.cell? ⟨w2.heap.size, 1, none⟩ = some (.int .i64 0) := by rw [(bcell hb3).1 _ _ (by first | (simp; done) | (simp; omega) | omega)]; simp [go_sem, World.cell?_alloc_past, *]
  have co0 : w.heap.size < w3.heap.size := by omega
  have cn0 : w3.heap.size ≠ w.heap.size := by omega
  have cm0 : w.heap.size ≠ w3.heap.size := by omega
  have cp0 : w.heap.size < w3.heap.size + 1 := by omega
  have co1 : w2.heap.size < w3.heap.size := by omega
  have cn1 : w3.heap.size ≠ w2.heap.size := by omega
  have cm1 : w2.heap.size ≠ w3.heap.size := by omega
  have cp1 : w2.heap.size < w3.heap.size + 1 := by omega
  have hBc : Below w.heap.size w w3 := (by (repeat (first | (with_reducible refine Below.drew ?_) | (with_reducible refine below_drewN ?_ _) | (with_reducible refine Below.alloc ?_ (by first | omega | (simp; done) | (simp; omega) | (simp at *; omega)) _) | (with_reducible refine Below.setCell ?_ (by first | omega | (simp; done) | (simp; omega) | (simp at *; omega)) _) | (with_reducible exact Below.refl _ _) | (with_reducible assumption) | (with_reducible refine Below.trans ?_ (Below.mono (by assumption) (by first | omega | (simp; done) | (simp; omega) | (simp at *; omega)))))))
  clear hb3 b_0 b_1 b_2 bo0 bn0 bm0 bp0
  go_wp2_with ((go_at_call 23; ((with_reducible refine (isMin_is _ _ _ hM).mono ?_)); rintro e w' ⟨rfl, rfl⟩))
  go_ret
  exact ⟨rfl, hBc⟩
set_option maxRecDepth 100000 in
set_option maxHeartbeats 2000000 in
theorem siteAngles_g (h p f t lo hi : Int) (w : World) (hOk : Hid (WvOk ⟨h, p, f⟩)) (t0 : 0 ≤ t) (t1 : t ≤ 1000000) (hW : Hid (wvE ⟨h, p, f⟩ = 0)) (hM : Hid (inB t 0 1000000 = true)) (hlo : Hid (angLo ⟨h, p, f⟩ t = lo)) (hhi : Hid (angHi ⟨h, p, f⟩ t = hi)) :
    Calls Tryz.prog 4 #[.agg #[.int .i64 h, .int .i64 p, .int .i64 f], .int .i64 t] w fun e w' => e = .returned (.bool true) ∧ Below w.heap.size w w' := by
  go_enter Tryz.func4, Tryz.ntmps4
  go_wp2_with fail
  refine (awake_any _).mono ?_
  rintro e w1 ⟨rfl, hb1⟩
  have za := hb1.size
  try simp at za
  have a_0 : w1.cell? ⟨w.heap.size, 0, none⟩ = some (.int .i64 h) := by rw [(bcell hb1).1 _ _ (by first | (simp; done) | (simp; omega) | omega)]; simp [go_sem, World.cell?_alloc_past, *]
  have a_1 : w1.cell? ⟨w.heap.size, 1, none⟩ = some (.int .i64 p) := by rw [(bcell hb1).1 _ _ (by first | (simp; done) | (simp; omega) | omega)]; simp [go_sem, World.cell?_alloc_past, *]
  have a_2 : w1.cell? ⟨w.heap.size, 2, none⟩ = some (.int .i64 f) := by rw [(bcell hb1).1 _ _ (by first | (simp; done) | (simp; omega) | omega)]; simp [go_sem, World.cell?_alloc_past, *]
  have ao0 : w.heap.size < w1.heap.size := by omega
  have an0 : w1.heap.size ≠ w.heap.size := by omega
  have am0 : w.heap.size ≠ w1.heap.size := by omega
  have ap0 : w.heap.size < w1.heap.size + 1 := by omega
  have hBa : Below w.heap.size w w1 := (by (repeat (first | (with_reducible refine Below.drew ?_) | (with_reducible refine below_drewN ?_ _) | (with_reducible refine Below.alloc ?_ (by first | omega | (simp; done) | (simp; omega) | (simp at *; omega)) _) | (with_reducible refine Below.setCell ?_ (by first | omega | (simp; done) | (simp; omega) | (simp at *; omega)) _) | (with_reducible exact Below.refl _ _) | (with_reducible assumption) | (with_reducible refine Below.trans ?_ (Below.mono (by assumption) (by first | omega | (simp; done) | (simp; omega) | (simp at *; omega)))))))
  clear hb1 
  go_wp2_with fail
  refine (AngleAt_good h p f t lo hi _ hOk t0 t1 hlo hhi).mono ?_
  rintro e w2 ⟨rfl, hb2⟩
  have zb := hb2.size
  try simp at zb
  have b_0 : w2.cell? ⟨w.heap.size, 0, none⟩ = some (.int .i64 h) := by rw [(bcell hb2).1 _ _ (by first | (simp; done) | (simp; omega) | omega)]; simp [go_sem, World.cell?_alloc_past, *]
  have b_1 : w2.cell? ⟨w.heap.size, 1, none⟩ = some (.int .i64 p) := by rw [(bcell hb2).1 _ _ (by first | (simp; done) | (simp; omega) | omega)]; simp [go_sem, World.cell?_alloc_past, *]
  have b_2 : w2.cell? ⟨w.heap.size, 2, none⟩ = some (.int .i64 f) := by rw [(bcell hb2).1 _ _ (by first | (simp; done) | (simp; omega) | omega)]; simp [go_sem, World.cell?_alloc_past, *]
  have bo0 : w.heap.size < w2.heap.size := by omega
  have bn0 : w2.heap.size ≠ w.heap.size := by omega
  have bm0 : w.heap.size ≠ w2.heap.size := by omega
  have bp0 : w.heap.size < w2.heap.size + 1 := by omega
  have hBb : Below w.heap.size w w2 := (by (repeat (first | (with_reducible refine Below.drew ?_) | (with_reducible refine below_drewN ?_ _) | (with_reducible refine Below.alloc ?_ (by first | omega | (simp; done) | (simp; omega) | (simp at *; omega)) _) | (with_reducible refine Below.setCell ?_ (by first | omega | (simp; done) | (simp; omega) | (simp at *; omega)) _) | (with_reducible exact Below.refl _ _) | (with_reducible assumption) | (with_reducible refine Below.trans ?_ (Below.mono (by assumption) (by first | omega | (simp; done) | (simp; omega) | (simp at *; omega)))))))
  clear hb2 a_0 a_1 a_2 ao0 an0 am0 ap0
  go_wp2_with fail
  refine (refWave_is h p f 0 _ hW).mono ?_
  rintro e w3 ⟨rfl, hb3⟩
  have zc := hb3.size
  try simp at zc
  have c_0 : w3.cell? ⟨w.heap.size, 0, none⟩ = some (.int .i64 h) := by rw [(bcell hb3).1 _ _ (by first | (simp; done) | (simp; omega) | omega)]; simp [go_sem, World.cell?_alloc_past, *]
  have c_1 : w3.cell? ⟨w.heap.size, 1, none⟩ = some (.int .i64 p) := by rw [(bcell hb3).1 _ _ (by first | (simp; done) | (simp; omega) | omega)]; simp [go_sem, World.cell?_alloc_past, *]
  have c_2 : w3.cell? ⟨w.heap.size, 2, none⟩ = some (.int .i64 f) := by rw [(bcell hb3).1 _ _ (by first | (simp; done) | (simp; omega) | omega)]; simp [go_sem, World.cell?_alloc_past, *]
  have c_3 : w3.cell? ⟨w2.heap.size, 0, none⟩ = some (.int .i64 lo) := by rw [(bcell hb3).1 _ _ (by first | (simp; done) | (simp; omega) | omega)]; simp [go_sem, World.cell?_alloc_past, *]
  have c_4 : w3.cell? ⟨w2.heap.size, 1, none⟩ = some (.int .i64 hi) := by rw [(bcell hb3).1 _ _ (by first | (simp; done) | (simp; omega) | omega)]; simp [go_sem, World.cell?_alloc_past, *]
  have co0 : w.heap.size < w3.heap.size := by omega
  have cn0 : w3.heap.size ≠ w.heap.size := by omega
  have cm0 : w.heap.size ≠ w3.heap.size := by omega
  have cp0 : w.heap.size < w3.heap.size + 1 := by omega
  have co1 : w2.heap.size < w3.heap.size := by omega
  have cn1 : w3.heap.size ≠ w2.heap.size := by omega
  have cm1 : w2.heap.size ≠ w3.heap.size := by omega
  have cp1 : w2.heap.size < w3.heap.size + 1 := by omega
  have hBc : Below w.heap.size w w3 := (by (repeat (first | (with_reducible refine Below.drew ?_) | (with_reducible refine below_drewN ?_ _) | (with_reducible refine Below.alloc ?_ (by first | omega | (simp; done) | (simp; omega) | (simp at *; omega)) _) | (with_reducible refine Below.setCell ?_ (by first | omega | (simp; done) | (simp; omega) | (simp at *; omega)) _) | (with_reducible exact Below.refl _ _) | (with_reducible assumption) | (with_reducible refine Below.trans ?_ (Below.mono (by assumption) (by first | omega | (simp; done) | (simp; omega) | (simp at *; omega)))))))
  clear hb3 b_0 b_1 b_2 bo0 bn0 bm0 bp0
  go_wp2_with ((go_at_call 23; ((with_reducible refine (isMin_is _ _ _ hM).mono ?_)); rintro e w' ⟨rfl, rfl⟩))
  go_upto_region 9 with (fail)
  refine wp_region_held_drew (S := (fun w' => w'.cell? ⟨w.heap.size, 0, none⟩ = some (.int .i64 h) ∧ w'.cell? ⟨w.heap.size, 1, none⟩ = some (.int .i64 p) ∧ w'.cell? ⟨w.heap.size, 2, none⟩ = some (.int .i64 f) ∧ w'.cell? ⟨w2.heap.size, 0, none⟩ = some (.int .i64 lo) ∧ w'.cell? ⟨w2.heap.size, 1, none⟩ = some (.int .i64 hi))) (by kernel_rfl) (by simp [go_sem, World.cell?_alloc_past, *]) (fun hHeld => ?_)
  refine tkH 0 ⟨some 35, _, _, _, _, _⟩ ?_ rfl ?_ (by assumption) ?_
  rotate_left
  · (intro w hSw; (try dsimp only at hSw); go_simp; all_goals with_reducible rfl)
  try simp only [Act.put, sA, sB, sC]
  refine tkH 1 ⟨some 36, _, _, _, _, _⟩ ?_ rfl ?_ (by assumption) ?_
  rotate_left
  · (intro w hSw; (try dsimp only at hSw); go_simp; all_goals with_reducible rfl)
  try simp only [Act.put, sA, sB, sC]
  refine tkH 2 ⟨some 37, _, _, _, _, _⟩ ?_ rfl ?_ (by assumption) ?_
  rotate_left
  · (intro w hSw; (try dsimp only at hSw); go_simp; all_goals with_reducible rfl)
  try simp only [Act.put, sA, sB, sC]
  refine tkH 3 ⟨some 38, _, _, _, _, _⟩ ?_ rfl ?_ (by assumption) ?_
  rotate_left
  · (intro w hSw; (try dsimp only at hSw); go_simp; all_goals with_reducible rfl)
  try simp only [Act.put, sA, sB, sC]
  refine tkH 4 ⟨some 39, _, _, _, _, _⟩ ?_ rfl ?_ (by assumption) ?_
  rotate_left
  · (intro w hSw; (try dsimp only at hSw); go_simp; all_goals with_reducible rfl)
  try simp only [Act.put, sA, sB, sC]
  refine tkH 5 ⟨some 40, _, _, _, _, _⟩ ?_ rfl ?_ (by assumption) ?_
  rotate_left
  · (intro w hSw; (try dsimp only at hSw); go_simp; all_goals with_reducible rfl)
  try simp only [Act.put, sA, sB, sC]
  refine wpAnyH_ready (rs := [6]) (by kernel_rfl) (by simp) ?_
  refine AllReadyH.cons rfl (fun K hK => ?_) AllReadyH.nil
  go_simp
  refine (refAngle_is h p f t lo hi _ hOk t0 (by omega) hlo hhi).mono ?_
  rintro e y ⟨rfl, hb⟩
  have zd := hb.size
  try simp at zd
  have d_0 : y.cell? ⟨w.heap.size, 0, none⟩ = some (.int .i64 h) := by rw [(bcell hb).1 _ _ (by first | (simp; done) | (simp; omega) | omega)]; simp [go_sem, World.cell?_alloc_past, *]
  have d_1 : y.cell? ⟨w.heap.size, 1, none⟩ = some (.int .i64 p) := by rw [(bcell hb).1 _ _ (by first | (simp; done) | (simp; omega) | omega)]; simp [go_sem, World.cell?_alloc_past, *]
  have d_2 : y.cell? ⟨w.heap.size, 2, none⟩ = some (.int .i64 f) := by rw [(bcell hb).1 _ _ (by first | (simp; done) | (simp; omega) | omega)]; simp [go_sem, World.cell?_alloc_past, *]
  have d_3 : y.cell? ⟨w2.heap.size, 0, none⟩ = some (.int .i64 lo) := by rw [(bcell hb).1 _ _ (by first | (simp; done) | (simp; omega) | omega)]; simp [go_sem, World.cell?_alloc_past, *]
  have d_4 : y.cell? ⟨w2.heap.size, 1, none⟩ = some (.int .i64 hi) := by rw [(bcell hb).1 _ _ (by first | (simp; done) | (simp; omega) | omega)]; simp [go_sem, World.cell?_alloc_past, *]
  have do0 : w.heap.size < y.heap.size := by omega
  have dn0 : y.heap.size ≠ w.heap.size := by omega
  have dm0 : w.heap.size ≠ y.heap.size := by omega
  have dp0 : w.heap.size < y.heap.size + 1 := by omega
  have do1 : w2.heap.size < y.heap.size := by omega
  have dn1 : y.heap.size ≠ w2.heap.size := by omega
  have dm1 : w2.heap.size ≠ y.heap.size := by omega
  have dp1 : w2.heap.size < y.heap.size + 1 := by omega
  have hBd : Below w.heap.size w y := (by (repeat (first | (with_reducible refine Below.drew ?_) | (with_reducible refine below_drewN ?_ _) | (with_reducible refine Below.alloc ?_ (by first | omega | (simp; done) | (simp; omega) | (simp at *; omega)) _) | (with_reducible refine Below.setCell ?_ (by first | omega | (simp; done) | (simp; omega) | (simp at *; omega)) _) | (with_reducible exact Below.refl _ _) | (with_reducible assumption) | (with_reducible refine Below.trans ?_ (Below.mono (by assumption) (by first | omega | (simp; done) | (simp; omega) | (simp at *; omega)))))))
  clear hb c_0 c_1 c_2 c_3 c_4 co0 cn0 cm0 cp0 co1 cn1 cm1 cp1
  go_wp2_with fail
  refine hK.out _ _ (by simp [go_sem, World.cell?_alloc_past, *]) (fun hHeld => ?_)
  clear hK K
  try simp only [Act.put, sA, sB, sC]
  refine tkH 7 ⟨some 42, _, _, _, _, _⟩ ?_ rfl ?_ (by assumption) ?_
  rotate_left
  · (intro w hSw; (try dsimp only at hSw); go_simp; all_goals with_reducible rfl)
  try simp only [Act.put, sA, sB, sC]
  refine tkH 8 ⟨some 43, _, _, _, _, _⟩ ?_ rfl ?_ (by assumption) ?_
  rotate_left
  · (intro w hSw; (try dsimp only at hSw); go_simp; all_goals with_reducible rfl)
  try simp only [Act.put, sA, sB, sC]
  refine tkH 9 ⟨some 4, _, _, _, _, _⟩ ?_ rfl ?_ (by assumption) ?_
  rotate_left
  · (intro w hSw; (try dsimp only at hSw); go_simp; all_goals with_reducible rfl)
  try simp only [Act.put, sA, sB, sC]
  refine wpAnyH_done (by kernel_rfl) ?_ _
  go_wp2
  go_ret
  exact ⟨rfl, hBd⟩
theorem siteAngles_any (h p f t : Int) (w : World) :
    Calls Tryz.prog 4 #[.agg #[.int .i64 h, .int .i64 p, .int .i64 f], .int .i64 t] w fun e w' => e = .returned (.bool true) ∧ Below w.heap.size w w' := by
  by_cases h1 : wvE ⟨h, p, f⟩ = 0
  · rcases inB_cases t 0 1000000 with h2 | h2
    · obtain ⟨t0, t1⟩ := inB_iff.1 h2
      exact siteAngles_g h p f t _ _ w (Lib.hid (wvE_ok h1)) t0 t1 (Lib.hid h1) (Lib.hid h2) (Lib.hid rfl) (Lib.hid rfl)
    · exact siteAngles_m h p f t 2 0 w (Lib.hid (by unfold anE; rw [h1, rngE_f h2]; rfl)) rfl (Lib.hid h1) rfl (Lib.hid h2)
  · exact siteAngles_w h p f t _ w (Lib.hid (by unfold anE firE; rw [if_neg h1])) (by simpa using h1) (Lib.hid rfl)
end Go.Proofs.YtallnjehhoengaaGreat
