import Derived.Test.YtojaompfffpofaaGreatZVSRefL
import Derived.Test.YtojaompfffpofaaGreatZVSPer
import Derived.Test.YtojaompfffpofaaGreatZVNums
import Derived.Outline
namespace Go.Proofs.YtojaompfffpofaaGreat
open Go.ChangeShapes Go.WideShapes Go.ChangeAt Go.RowKit
set_option linter.unusedVariables false
set_option linter.unusedSimpArgs false
attribute [local go_sem ↓] Go.wp_at_zero Go.wp_at_succ
def sumH (L : List Wv) : Int := (L.map fun w => w.h).sum
theorem sumH_snoc (L : List Wv) (w : Wv) : sumH (L ++ [w]) = sumH L + w.h := by simp [sumH]
theorem hmulc {h c : Int} (h0 : 0 ≤ h) (c0 : -100000000 ≤ c) (c1 : c ≤ 100000000) : -(100000000 * h) ≤ h * c ∧ h * c ≤ 100000000 * h := by
  have a1 := Int.mul_le_mul_of_nonneg_left c0 h0
  have a2 := Int.mul_le_mul_of_nonneg_left c1 h0
  omega
theorem sumH_bd {L : List Wv} (hL : ∀ w ∈ L, WvOk w) (t : Int) : -(100000000 * sumH L) ≤ sumLo L t ∧ sumLo L t ≤ sumHi L t ∧ sumHi L t ≤ 100000000 * sumH L ∧ 0 ≤ sumH L ∧ sumH L ≤ 100000 * (L.length : Int) := by
  induction L with
  | nil => simp [sumLo, sumHi, sumH]
  | cons w r ih =>
    obtain ⟨i1, i2, i3, i4, i5⟩ := ih fun x hx => hL x (.tail _ hx)
    have hw := hL w (.head _)
    obtain ⟨c1, c2, c3⟩ := cosW_bd w t
    have b1 := hmulc hw.h0 c1 (by omega)
    have b2 := hmulc hw.h0 (by omega : -100000000 ≤ (cosW w t).2) c3
    have b3 : w.h * (cosW w t).1 ≤ w.h * (cosW w t).2 := Int.mul_le_mul_of_nonneg_left c2 hw.h0
    have b4 := hw.h0
    have b5 := hw.h1
    have e1 : sumLo (w :: r) t = w.h * (cosW w t).1 + sumLo r t := by simp [sumLo]
    have e2 : sumHi (w :: r) t = w.h * (cosW w t).2 + sumHi r t := by simp [sumHi]
    have e3 : sumH (w :: r) = w.h + sumH r := by simp [sumH]
    rw [e1, e2, e3]
    simp only [List.length_cons]
    omega
theorem lev_in (m : Int) {L : List Wv} (hL : ∀ w ∈ L, WvOk w) (t : Int) : m - sumH L ≤ levLo m L t ∧ levLo m L t ≤ levHi m L t ∧ levHi m L t ≤ m + sumH L := by
  obtain ⟨h1, h2, h3, _, _⟩ := sumH_bd hL t
  unfold levLo levHi dnO upO
  omega
theorem refLevel_is (m : Int) (L : List Wv) (A : Option Addr) (cap n : Nat) (t x y : Int) (w : World) (hn : Hid (n = L.length)) (hl : n ≤ 10) (hL : Hid (∀ x ∈ L, WvOk x)) (m0 : -100000 ≤ m) (m1 : m ≤ 100000) (t0 : 0 ≤ t) (t1 : t ≤ 2000000) (HL : Hid (SlRows wvV 3 w A L)) (hx : Hid (levLo m L t = x)) (hy : Hid (levHi m L t = y)) :
    Calls Tryz.prog 74 #[.agg #[.int .i64 m, .slice A n cap], .int .i64 t] w fun e w' => e = .returned (.agg #[.int .i64 x, .int .i64 y]) ∧ Below w.heap.size w w' := by
  have := refLevel_any m L A cap n t w hn hl hL.out m0 m1 t0 t1 HL
  rw [hx.out, hy.out] at this; exact this
end Go.Proofs.YtojaompfffpofaaGreat

namespace Go.Proofs.YtojaompfffpofaaGreat
open Go.ChangeShapes Go.WideShapes Go.ChangeAt Go.RowKit
set_option linter.unusedVariables false
set_option linter.unusedSimpArgs false
attribute [local go_sem ↓] Go.wp_at_zero Go.wp_at_succ
/-- 2 if levels are surely slack, 0 if surely not, else 1. -/
def slkV (x y l : Int) : Int := if -l ≤ x ∧ y ≤ l then 2 else if y < -l ∨ l < x then 0 else 1
theorem slkV_mono {x y l k : Int} (h : l ≤ k) : slkV x y l ≤ slkV x y k := by
  unfold slkV
  split
  · rw [if_pos (by omega)]; omega
  · split
    · split
      · omega
      · split <;> omega
    · split
      · omega
      · rw [if_neg (by omega)]; omega
theorem checkLimit_is (l E : Int) (w : World) (hE : Hid (rngE l 0 10000000 = E)) :
    Calls Tryz.prog 66 #[.int .i64 l] w fun e w' => e = .returned (.int .i64 E) ∧ w = w' := by
  rw [← hE.out]
  go_enter Tryz.func66, Tryz.ntmps66
  go_wp2_with ((go_at_call 87; ((with_reducible refine (cRange_any _ _ _ _).mono ?_)); rintro e w' ⟨rfl, rfl⟩))
  go_ret
  exact ⟨rfl, rfl⟩
theorem cF3y (x y z r : Int) (b : Nat) (w : World) (hr : Hid (firE [x, y, z] = r)) (h0 : w.cell? ⟨b, 0, none⟩ = some (.int .i64 x)) (h1 : w.cell? ⟨b, 1, none⟩ = some (.int .i64 y)) (h2 : w.cell? ⟨b, 2, none⟩ = some (.int .i64 z)) :
    Calls Tryz.prog 64 #[.slice (some ⟨b, 0, none⟩) 3 3] w fun e w' => e = .returned (.int .i64 r) ∧ w = w' := by
  rw [← hr.out]; exact cFirst3c x y z b w h0 h1 h2
theorem slk_cases (x y l s : Int) (hxy : x ≤ y) (hs : slkV x y l = s) : (-l ≤ x ∧ y ≤ l ∧ s = 2) ∨ (x < -l ∧ y < -l ∧ s = 0) ∨ (l < x ∧ l < y ∧ -l ≤ y ∧ s = 0) ∨ (x < -l ∧ -l ≤ y ∧ x ≤ l ∧ s = 1) ∨ (-l ≤ x ∧ l < y ∧ -l ≤ y ∧ x ≤ l ∧ s = 1) := by
  unfold slkV at hs
  split at hs
  · omega
  · split at hs <;> omega
set_option maxRecDepth 100000 in
set_option maxHeartbeats 2000000 in
theorem slack_is (m : Int) (L : List Wv) (A : Option Addr) (b cap n : Nat) (x y t l s : Int) (w : World) (hn : Hid (n = L.length)) (hl : n ≤ 10) (HW : Hid (∀ x ∈ L, WvOk x)) (m0 : -100000 ≤ m) (m1 : m ≤ 100000) (t0 : 0 ≤ t) (t1 : t ≤ 2000000) (hb : b < w.heap.size) (HL : Hid (SlRows wvV 3 w A L))
    (cm : w.cell? ⟨b, 0, none⟩ = some (.int .i64 m)) (cs : w.cell? ⟨b, 1, none⟩ = some (.slice A n cap)) (H : Hid (HvA w b 2)) (hx : Hid (levLo m L t = x)) (hy : Hid (levHi m L t = y)) (l0 : 0 ≤ l) (l1 : l ≤ 10000000) (hs : Hid (slkV x y l = s)) :
    Calls Tryz.prog 71 #[.pointer (some ⟨b, 0, none⟩), .int .i64 t, .int .i64 l] w fun e w' => e = .returned (.int .i64 s) ∧ Below w.heap.size w w' := by
  have hxy : x ≤ y := by rw [← hx.out, ← hy.out]; exact (lev_in m HW.out t).2.1
  have e1 : IntKind.i64.wrap (-l) = -l := IntWalk.i64_in _ (by omega)
  have HC := Lib.hid (level_all m L A b cap n x y t w hn hl HW m0 m1 t0 t1 hb HL cm cs H hx hy)
  have hc := slk_cases x y l s hxy hs.out
  clear hs hx hy
  rcases hc with ⟨c1, c2, rfl⟩ | ⟨c1, c2, rfl⟩ | ⟨c1, c2, c3, rfl⟩ | ⟨c1, c2, c3, rfl⟩ | ⟨c1, c2, c3, c4, rfl⟩
  all_goals
    go_enter Tryz.func71, Tryz.ntmps71
    go_wp2_with (go_at_call 72; refine (HC.out).mono ?_; rintro e w1 ⟨rfl, hbw⟩; obtain ⟨hbc, hbf⟩ := bcell hbw; have hbs := hbw.size)
    go_ret
    exact ⟨rfl, (by (repeat (first | (with_reducible refine Below.drew ?_) | (with_reducible refine below_drewN ?_ _) | (with_reducible refine Below.alloc ?_ (by first | omega | (simp; done) | (simp; omega) | (simp at *; omega)) _) | (with_reducible refine Below.setCell ?_ (by first | omega | (simp; done) | (simp; omega) | (simp at *; omega)) _) | (with_reducible exact Below.refl _ _) | (with_reducible assumption) | (with_reducible refine Below.trans ?_ (Below.mono (by assumption) (by first | omega | (simp; done) | (simp; omega) | (simp at *; omega)))))))⟩
set_option maxRecDepth 100000 in
set_option maxHeartbeats 2000000 in
theorem refSlack_is (m : Int) (L : List Wv) (A : Option Addr) (cap n : Nat) (x y t l s : Int) (w : World) (hn : Hid (n = L.length)) (hl : n ≤ 10) (HW : Hid (∀ x ∈ L, WvOk x)) (m0 : -100000 ≤ m) (m1 : m ≤ 100000) (t0 : 0 ≤ t) (t1 : t ≤ 2000000) (HL : Hid (SlRows wvV 3 w A L)) (hx : Hid (levLo m L t = x)) (hy : Hid (levHi m L t = y)) (l0 : 0 ≤ l) (l1 : l ≤ 10000000) (hs : Hid (slkV x y l = s)) :
    Calls Tryz.prog 75 #[.agg #[.int .i64 m, .slice A n cap], .int .i64 t, .int .i64 l] w fun e w' => e = .returned (.int .i64 s) ∧ Below w.heap.size w w' := by
  have hxy : x ≤ y := by rw [← hx.out, ← hy.out]; exact (lev_in m HW.out t).2.1
  have e1 : IntKind.i64.wrap (-l) = -l := IntWalk.i64_in _ (by omega)
  have HR : Hid (∀ w' : World, Below w.heap.size w w' → SlRows wvV 3 w' A L) := Lib.hid fun w' hB => HL.out.below hB
  have hc := slk_cases x y l s hxy hs.out
  clear hs
  rcases hc with ⟨c1, c2, rfl⟩ | ⟨c1, c2, rfl⟩ | ⟨c1, c2, c3, rfl⟩ | ⟨c1, c2, c3, rfl⟩ | ⟨c1, c2, c3, c4, rfl⟩
  all_goals
    go_enter Tryz.func75, Tryz.ntmps75
    go_wp2_with (go_at_call 74; refine (refLevel_is m L A cap n t x y _ hn hl HW m0 m1 t0 t1 (Lib.hid (HR.out _ (by (repeat (first | (with_reducible refine Below.drew ?_) | (with_reducible refine below_drewN ?_ _) | (with_reducible refine Below.alloc ?_ (by first | omega | (simp; done) | (simp; omega) | (simp at *; omega)) _) | (with_reducible refine Below.setCell ?_ (by first | omega | (simp; done) | (simp; omega) | (simp at *; omega)) _) | (with_reducible exact Below.refl _ _) | (with_reducible assumption) | (with_reducible refine Below.trans ?_ (Below.mono (by assumption) (by first | omega | (simp; done) | (simp; omega) | (simp at *; omega))))))))) hx hy).mono ?_; rintro e w1 ⟨rfl, hbw⟩; obtain ⟨hbc, hbf⟩ := bcell hbw; have hbs := hbw.size)
    go_ret
    exact ⟨rfl, (by (repeat (first | (with_reducible refine Below.drew ?_) | (with_reducible refine below_drewN ?_ _) | (with_reducible refine Below.alloc ?_ (by first | omega | (simp; done) | (simp; omega) | (simp at *; omega)) _) | (with_reducible refine Below.setCell ?_ (by first | omega | (simp; done) | (simp; omega) | (simp at *; omega)) _) | (with_reducible exact Below.refl _ _) | (with_reducible assumption) | (with_reducible refine Below.trans ?_ (Below.mono (by assumption) (by first | omega | (simp; done) | (simp; omega) | (simp at *; omega)))))))⟩
def slaE (m : Int) (L : List Wv) (t l : Int) : Int := firE [tidE m L, rngE t 0 1000000, rngE l 0 10000000]
theorem firE3s {a b c : Int} (h : firE [a, b, c] = 0) : a = 0 ∧ b = 0 ∧ c = 0 := by
  unfold firE at h
  by_cases ha : a = 0
  · rw [if_pos ha] at h
    exact ⟨ha, firE2 h⟩
  · rw [if_neg ha] at h; exact absurd h ha
set_option maxRecDepth 100000 in
set_option maxHeartbeats 4000000 in
theorem SlackAt_bad (m : Int) (L : List Wv) (A : Option Addr) (cap n : Nat) (t l E : Int) (w : World) (hn : Hid (n = L.length)) (hl : n ≤ 1000000) (HL : Hid (SlRows wvV 3 w A L)) (hE0 : Hid (slaE m L t l = E)) (hz : (E != 0) = true) :
    Calls Tryz.prog 57 #[.agg #[.int .i64 m, .slice A n cap], .int .i64 t, .int .i64 l] w fun e w' => e = .returned (.tuple #[.int .i64 0, .int .i64 E]) ∧ Below w.heap.size w w' := by
  obtain ⟨F, hF⟩ : ∃ z, Hid (tidE m L = z) := ⟨_, Lib.hid rfl⟩
  obtain ⟨G, hG⟩ : ∃ z, Hid (rngE l 0 10000000 = z) := ⟨_, Lib.hid rfl⟩
  have hE : Hid (firE [F, rngE t 0 1000000, G] = E) := Lib.hid (by rw [← hF.out, ← hG.out]; exact hE0.out)
  have HR : Hid (∀ w' : World, Below w.heap.size w w' → SlRows wvV 3 w' A L) := Lib.hid fun w' hB => HL.out.below hB
  clear hE0
  go_enter Tryz.func57, Tryz.ntmps57
  go_wp2_with fail
  refine (CheckTide_is m L A cap n F _ hn hl (Lib.hid (HR.out _ (by (repeat (first | (with_reducible refine Below.drew ?_) | (with_reducible refine below_drewN ?_ _) | (with_reducible refine Below.alloc ?_ (by first | omega | (simp; done) | (simp; omega) | (simp at *; omega)) _) | (with_reducible refine Below.setCell ?_ (by first | omega | (simp; done) | (simp; omega) | (simp at *; omega)) _) | (with_reducible exact Below.refl _ _) | (with_reducible assumption) | (with_reducible refine Below.trans ?_ (Below.mono (by assumption) (by first | omega | (simp; done) | (simp; omega) | (simp at *; omega))))))))) hF).mono ?_
  rintro e xw1 ⟨rfl, hbx1⟩
  have zx1 := hbx1.size
  try simp at zx1
  obtain ⟨x1_0_0, x1_0_1⟩ : xw1.cell? ⟨w.heap.size, 0, none⟩ = some (.int .i64 m) ∧ xw1.cell? ⟨w.heap.size, 1, none⟩ = some (.slice A n cap) := by refine ⟨?_, ?_⟩ <;> (rw [(bcell hbx1).1 _ _ (by first | (simp; done) | (simp; omega) | omega)]; simp [go_sem, World.cell?_alloc_past, *])
  obtain ⟨x1o0, x1n0, x1m0, x1t0_0⟩ : w.heap.size < xw1.heap.size ∧ xw1.heap.size ≠ w.heap.size ∧ w.heap.size ≠ xw1.heap.size ∧ w.heap.size < xw1.heap.size + 1 := by refine ⟨?_, ?_, ?_, ?_⟩ <;> omega
  have hBx1 : Below w.heap.size w xw1 := (by (repeat (first | (with_reducible refine Below.drew ?_) | (with_reducible refine below_drewN ?_ _) | (with_reducible refine Below.alloc ?_ (by first | omega | (simp; done) | (simp; omega) | (simp at *; omega)) _) | (with_reducible refine Below.setCell ?_ (by first | omega | (simp; done) | (simp; omega) | (simp at *; omega)) _) | (with_reducible exact Below.refl _ _) | (with_reducible assumption) | (with_reducible refine Below.trans ?_ (Below.mono (by assumption) (by first | omega | (simp; done) | (simp; omega) | (simp at *; omega)))))))
  clear hbx1 
  go_wp2_with ((go_at_call 77; ((with_reducible refine (checkMinute_any _ _).mono ?_)); rintro e w' ⟨rfl, rfl⟩))
  go_wp2_with ((go_at_call 66; ((with_reducible refine (checkLimit_is _ G _ hG).mono ?_)); rintro e w' ⟨rfl, rfl⟩))
  go_wp2_with fail
  refine (cF3y F (rngE t 0 1000000) G E _ _ hE (by simp [go_sem]) (by simp [go_sem]) (by simp [go_sem])).mono ?_
  rintro e w' ⟨rfl, rfl⟩
  go_wp2
  go_ret2
  exact ⟨rfl, (by (repeat (first | (with_reducible refine Below.drew ?_) | (with_reducible refine below_drewN ?_ _) | (with_reducible refine Below.alloc ?_ (by first | omega | (simp; done) | (simp; omega) | (simp at *; omega)) _) | (with_reducible refine Below.setCell ?_ (by first | omega | (simp; done) | (simp; omega) | (simp at *; omega)) _) | (with_reducible exact Below.refl _ _) | (with_reducible assumption) | (with_reducible refine Below.trans ?_ (Below.mono (by assumption) (by first | omega | (simp; done) | (simp; omega) | (simp at *; omega)))))))⟩
set_option maxRecDepth 100000 in
set_option maxHeartbeats 4000000 in
theorem SlackAt_good (m : Int) (L : List Wv) (A : Option Addr) (cap n : Nat) (t l x y s : Int) (w : World) (hn : Hid (n = L.length)) (hl : n ≤ 1000000) (HL : Hid (SlRows wvV 3 w A L)) (hE0 : Hid (slaE m L t l = 0)) (hx : Hid (levLo m L t = x)) (hy : Hid (levHi m L t = y)) (hs : Hid (slkV x y l = s)) :
    Calls Tryz.prog 57 #[.agg #[.int .i64 m, .slice A n cap], .int .i64 t, .int .i64 l] w fun e w' => e = .returned (.tuple #[.int .i64 s, .int .i64 0]) ∧ Below w.heap.size w w' := by
  obtain ⟨z1, z2, z3⟩ := firE3s hE0.out
  obtain ⟨m0, m1, h10', hW⟩ := tidE_ok z1
  obtain ⟨t0, t1'⟩ := rngE_0 z2
  obtain ⟨l0, l1⟩ := rngE_0 z3
  have t1 : t ≤ 2000000 := by omega
  have h10 : n ≤ 10 := by rw [hn.out]; exact h10'
  have HW := Lib.hid hW
  obtain ⟨F, hF⟩ : ∃ z, Hid (tidE m L = z) := ⟨_, Lib.hid rfl⟩
  obtain ⟨G, hG⟩ : ∃ z, Hid (rngE l 0 10000000 = z) := ⟨_, Lib.hid rfl⟩
  obtain ⟨E, hE1⟩ : ∃ E : Int, E = 0 := ⟨0, rfl⟩
  have hE : Hid (firE [F, rngE t 0 1000000, G] = E) := Lib.hid (by rw [← hF.out, ← hG.out, hE1]; exact hE0.out)
  have hz : (E != 0) = false := by rw [hE1]; rfl
  have HR : Hid (∀ w' : World, Below w.heap.size w w' → SlRows wvV 3 w' A L) := Lib.hid fun w' hB => HL.out.below hB
  clear hE0 z1 z2 z3 hW t1' h10' hE1
  go_enter Tryz.func57, Tryz.ntmps57
  go_wp2_with fail
  refine (CheckTide_is m L A cap n F _ hn hl (Lib.hid (HR.out _ (by (repeat (first | (with_reducible refine Below.drew ?_) | (with_reducible refine below_drewN ?_ _) | (with_reducible refine Below.alloc ?_ (by first | omega | (simp; done) | (simp; omega) | (simp at *; omega)) _) | (with_reducible refine Below.setCell ?_ (by first | omega | (simp; done) | (simp; omega) | (simp at *; omega)) _) | (with_reducible exact Below.refl _ _) | (with_reducible assumption) | (with_reducible refine Below.trans ?_ (Below.mono (by assumption) (by first | omega | (simp; done) | (simp; omega) | (simp at *; omega))))))))) hF).mono ?_
  rintro e xw1 ⟨rfl, hbx1⟩
  have zx1 := hbx1.size
  try simp at zx1
  obtain ⟨x1_0_0, x1_0_1⟩ : xw1.cell? ⟨w.heap.size, 0, none⟩ = some (.int .i64 m) ∧ xw1.cell? ⟨w.heap.size, 1, none⟩ = some (.slice A n cap) := by refine ⟨?_, ?_⟩ <;> (rw [(bcell hbx1).1 _ _ (by first | (simp; done) | (simp; omega) | omega)]; simp [go_sem, World.cell?_alloc_past, *])
  obtain ⟨x1o0, x1n0, x1m0, x1t0_0⟩ : w.heap.size < xw1.heap.size ∧ xw1.heap.size ≠ w.heap.size ∧ w.heap.size ≠ xw1.heap.size ∧ w.heap.size < xw1.heap.size + 1 := by refine ⟨?_, ?_, ?_, ?_⟩ <;> omega
  have hBx1 : Below w.heap.size w xw1 := (by (repeat (first | (with_reducible refine Below.drew ?_) | (with_reducible refine below_drewN ?_ _) | (with_reducible refine Below.alloc ?_ (by first | omega | (simp; done) | (simp; omega) | (simp at *; omega)) _) | (with_reducible refine Below.setCell ?_ (by first | omega | (simp; done) | (simp; omega) | (simp at *; omega)) _) | (with_reducible exact Below.refl _ _) | (with_reducible assumption) | (with_reducible refine Below.trans ?_ (Below.mono (by assumption) (by first | omega | (simp; done) | (simp; omega) | (simp at *; omega)))))))
  clear hbx1 
  go_wp2_with ((go_at_call 77; ((with_reducible refine (checkMinute_any _ _).mono ?_)); rintro e w' ⟨rfl, rfl⟩))
  go_wp2_with ((go_at_call 66; ((with_reducible refine (checkLimit_is _ G _ hG).mono ?_)); rintro e w' ⟨rfl, rfl⟩))
  go_wp2_with fail
  refine (cF3y F (rngE t 0 1000000) G E _ _ hE (by simp [go_sem]) (by simp [go_sem]) (by simp [go_sem])).mono ?_
  rintro e w' ⟨rfl, rfl⟩
  go_wp2_with fail
  refine (newTide_any m A n cap _).mono ?_
  rintro e xw2 ⟨b, rfl, g1, g2, cm, cs, hH, hbx2⟩
  have zx2 := hbx2.size
  try simp at zx2
  obtain ⟨x2_0_0, x2_0_1⟩ : xw2.cell? ⟨w.heap.size, 0, none⟩ = some (.int .i64 m) ∧ xw2.cell? ⟨w.heap.size, 1, none⟩ = some (.slice A n cap) := by refine ⟨?_, ?_⟩ <;> (rw [(bcell hbx2).1 _ _ (by first | (simp; done) | (simp; omega) | omega)]; simp [go_sem, World.cell?_alloc_past, *])
  obtain ⟨x2o0, x2n0, x2m0, x2t0_0⟩ : w.heap.size < xw2.heap.size ∧ xw2.heap.size ≠ w.heap.size ∧ w.heap.size ≠ xw2.heap.size ∧ w.heap.size < xw2.heap.size + 1 := by refine ⟨?_, ?_, ?_, ?_⟩ <;> omega
  have hBx2 : Below w.heap.size w xw2 := (by (repeat (first | (with_reducible refine Below.drew ?_) | (with_reducible refine below_drewN ?_ _) | (with_reducible refine Below.alloc ?_ (by first | omega | (simp; done) | (simp; omega) | (simp at *; omega)) _) | (with_reducible refine Below.setCell ?_ (by first | omega | (simp; done) | (simp; omega) | (simp at *; omega)) _) | (with_reducible exact Below.refl _ _) | (with_reducible assumption) | (with_reducible refine Below.trans ?_ (Below.mono (by assumption) (by first | omega | (simp; done) | (simp; omega) | (simp at *; omega)))))))
  clear hbx2 x1_0_0 x1_0_1 x1o0 x1n0 x1m0 x1t0_0 hBx1
  have HH := Lib.hid hH
  clear hH
  go_wp2_with fail
  refine (slack_is m L A b cap n x y t l s _ hn h10 HW m0 m1 t0 t1 g2 (Lib.hid (HR.out _ (by (repeat (first | (with_reducible refine Below.drew ?_) | (with_reducible refine below_drewN ?_ _) | (with_reducible refine Below.alloc ?_ (by first | omega | (simp; done) | (simp; omega) | (simp at *; omega)) _) | (with_reducible refine Below.setCell ?_ (by first | omega | (simp; done) | (simp; omega) | (simp at *; omega)) _) | (with_reducible exact Below.refl _ _) | (with_reducible assumption) | (with_reducible refine Below.trans ?_ (Below.mono (by assumption) (by first | omega | (simp; done) | (simp; omega) | (simp at *; omega))))))))) cm cs HH hx hy l0 l1 hs).mono ?_
  rintro e xw3 ⟨rfl, hbx3⟩
  have zx3 := hbx3.size
  try simp at zx3
  obtain ⟨x3_0_0, x3_0_1, x3_1_0, x3_1_1⟩ : xw3.cell? ⟨w.heap.size, 0, none⟩ = some (.int .i64 m) ∧ xw3.cell? ⟨w.heap.size, 1, none⟩ = some (.slice A n cap) ∧ xw3.cell? ⟨b, 0, none⟩ = some (.int .i64 m) ∧ xw3.cell? ⟨b, 1, none⟩ = some (.slice A n cap) := by refine ⟨?_, ?_, ?_, ?_⟩ <;> (rw [(bcell hbx3).1 _ _ (by first | (simp; done) | (simp; omega) | omega)]; simp [go_sem, World.cell?_alloc_past, *])
  obtain ⟨x3o0, x3n0, x3m0, x3t0_0, x3o1, x3n1, x3m1, x3t1_0⟩ : w.heap.size < xw3.heap.size ∧ xw3.heap.size ≠ w.heap.size ∧ w.heap.size ≠ xw3.heap.size ∧ w.heap.size < xw3.heap.size + 1 ∧ b < xw3.heap.size ∧ xw3.heap.size ≠ b ∧ b ≠ xw3.heap.size ∧ b < xw3.heap.size + 1 := by refine ⟨?_, ?_, ?_, ?_, ?_, ?_, ?_, ?_⟩ <;> omega
  have hBx3 : Below w.heap.size w xw3 := (by (repeat (first | (with_reducible refine Below.drew ?_) | (with_reducible refine below_drewN ?_ _) | (with_reducible refine Below.alloc ?_ (by first | omega | (simp; done) | (simp; omega) | (simp at *; omega)) _) | (with_reducible refine Below.setCell ?_ (by first | omega | (simp; done) | (simp; omega) | (simp at *; omega)) _) | (with_reducible exact Below.refl _ _) | (with_reducible assumption) | (with_reducible refine Below.trans ?_ (Below.mono (by assumption) (by first | omega | (simp; done) | (simp; omega) | (simp at *; omega)))))))
  clear hbx3 x2_0_0 x2_0_1 x2o0 x2n0 x2m0 x2t0_0 hBx2
  go_wp2
  go_ret2
  exact ⟨rfl, (by (repeat (first | (with_reducible refine Below.drew ?_) | (with_reducible refine below_drewN ?_ _) | (with_reducible refine Below.alloc ?_ (by first | omega | (simp; done) | (simp; omega) | (simp at *; omega)) _) | (with_reducible refine Below.setCell ?_ (by first | omega | (simp; done) | (simp; omega) | (simp at *; omega)) _) | (with_reducible exact Below.refl _ _) | (with_reducible assumption) | (with_reducible refine Below.trans ?_ (Below.mono (by assumption) (by first | omega | (simp; done) | (simp; omega) | (simp at *; omega)))))))⟩
end Go.Proofs.YtojaompfffpofaaGreat
