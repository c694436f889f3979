import Derived.Test.YtojaompfffpofaaGreatZVSSlk
import Derived.Outline
namespace Go.Proofs.YtojaompfffpofaaGreat
open Go.ChangeShapes Go.WideShapes Go.ChangeAt Go.RowKit
set_option linter.unusedVariables false
set_option linter.unusedSimpArgs false
attribute [local go_sem ↓] Go.wp_at_zero Go.wp_at_succ
/-- The first minute from a to a + k whose level's lower end is greatest, with that end. -/
def hgV (m : Int) (L : List Wv) (a : Int) : Nat → Int × Int
  | 0 => (a, levLo m L a)
  | k + 1 => if (hgV m L a k).2 < levLo m L (a + (k : Int) + 1) then (a + (k : Int) + 1, levLo m L (a + (k : Int) + 1)) else hgV m L a k
set_option maxRecDepth 100000 in
set_option maxHeartbeats 4000000 in
theorem refHigh_is (m : Int) (L : List Wv) (A : Option Addr) (cap n : Nat) (a b r : Int) (w : World) (hn : Hid (n = L.length)) (hl : n ≤ 10) (HW : Hid (∀ x ∈ L, WvOk x)) (m0 : -100000 ≤ m) (m1 : m ≤ 100000) (a0 : 0 ≤ a) (ab : a ≤ b) (b1 : b ≤ 1000000) (HL : Hid (SlRows wvV 3 w A L)) (hr : Hid ((hgV m L a (b - a).toNat).1 = r)) :
    Calls Tryz.prog 19 #[.agg #[.int .i64 m, .slice A n cap], .agg #[.int .i64 a, .int .i64 b]] w fun e w' => e = .returned (.int .i64 r) ∧ Below w.heap.size w w' := by
  have HR : Hid (∀ w' : World, Below w.heap.size w w' → SlRows wvV 3 w' A L) := Lib.hid fun w' hB => HL.out.below hB
  obtain ⟨v0, hv0⟩ : ∃ z, Hid (levLo m L a = z) := ⟨_, Lib.hid rfl⟩
  obtain ⟨u0, hu0⟩ : ∃ z, Hid (levHi m L a = z) := ⟨_, Lib.hid rfl⟩
  have ew : IntKind.i64.wrap (a + 1) = a + 1 := IntWalk.i64_in _ (by omega)
  have f1 := rng_lo v0 u0
  go_enter Tryz.func19, Tryz.ntmps19
  go_wp2_with fail
  refine (refLevel_is m L A cap n a v0 u0 _ hn hl HW m0 m1 a0 (by omega) (Lib.hid (HR.out _ (by (repeat (first | (with_reducible refine Below.drew ?_) | (with_reducible refine below_drewN ?_ _) | (with_reducible refine Below.alloc ?_ (by first | omega | (simp; done) | (simp; omega) | (simp at *; omega)) _) | (with_reducible refine Below.setCell ?_ (by first | omega | (simp; done) | (simp; omega) | (simp at *; omega)) _) | (with_reducible exact Below.refl _ _) | (with_reducible assumption) | (with_reducible refine Below.trans ?_ (Below.mono (by assumption) (by first | omega | (simp; done) | (simp; omega) | (simp at *; omega))))))))) hv0 hu0).mono ?_
  rintro e xw1 ⟨rfl, hbx1⟩
  have zx1 := hbx1.size
  try simp at zx1
  obtain ⟨x1_0_0, x1_0_1, x1_1_0, x1_1_1⟩ : xw1.cell? ⟨w.heap.size, 0, none⟩ = some (.int .i64 m) ∧ xw1.cell? ⟨w.heap.size, 1, none⟩ = some (.slice A n cap) ∧ xw1.cell? ⟨w.heap.size + 1, 0, none⟩ = some (.int .i64 a) ∧ xw1.cell? ⟨w.heap.size + 1, 1, none⟩ = some (.int .i64 b) := by refine ⟨?_, ?_, ?_, ?_⟩ <;> (rw [(bcell hbx1).1 _ _ (by first | (simp; done) | (simp; omega) | omega)]; simp [go_sem, World.cell?_alloc_past, *])
  obtain ⟨x1o0, x1n0, x1m0, x1t0_0, x1o1, x1n1, x1m1, x1t1_0⟩ : w.heap.size < xw1.heap.size ∧ xw1.heap.size ≠ w.heap.size ∧ w.heap.size ≠ xw1.heap.size ∧ w.heap.size < xw1.heap.size + 1 ∧ w.heap.size + 1 < xw1.heap.size ∧ xw1.heap.size ≠ w.heap.size + 1 ∧ w.heap.size + 1 ≠ xw1.heap.size ∧ w.heap.size + 1 < xw1.heap.size + 1 := by refine ⟨?_, ?_, ?_, ?_, ?_, ?_, ?_, ?_⟩ <;> omega
  have hBx1 : Below w.heap.size w xw1 := (by (repeat (first | (with_reducible refine Below.drew ?_) | (with_reducible refine below_drewN ?_ _) | (with_reducible refine Below.alloc ?_ (by first | omega | (simp; done) | (simp; omega) | (simp at *; omega)) _) | (with_reducible refine Below.setCell ?_ (by first | omega | (simp; done) | (simp; omega) | (simp at *; omega)) _) | (with_reducible exact Below.refl _ _) | (with_reducible assumption) | (with_reducible refine Below.trans ?_ (Below.mono (by assumption) (by first | omega | (simp; done) | (simp; omega) | (simp at *; omega)))))))
  clear hbx1 
  go_wp2_with fail
  go_loopw [5, 6, 7] (fun s5 s6 s7 wr => ∃ (k : Nat) (p v : Int), s5 = .int .i64 p ∧ s6 = .int .i64 v ∧ s7 = .int .i64 (a + (k : Int) + 1) ∧ Hid (hgV m L a k = (p, v)) ∧ (k : Int) ≤ b - a ∧ wr.cell? ⟨w.heap.size, 0, none⟩ = some (.int .i64 m) ∧ wr.cell? ⟨w.heap.size, 1, none⟩ = some (.slice A n cap) ∧ wr.cell? ⟨w.heap.size + 1, 0, none⟩ = some (.int .i64 a) ∧ wr.cell? ⟨w.heap.size + 1, 1, none⟩ = some (.int .i64 b) ∧ w.heap.size + 2 ≤ wr.heap.size ∧ Below w.heap.size w wr) (fun _ _ s7 _ => (b + 2 - intOf s7).toNat)
  case atStart => exact ⟨0, a, v0, rfl, rfl, by simp, Lib.hid (by rw [← hv0.out]; rfl), by omega, by simp [go_sem, *], by simp [go_sem, *], by simp [go_sem, *], by simp [go_sem, *], by omega, (by (repeat (first | (with_reducible refine Below.drew ?_) | (with_reducible refine below_drewN ?_ _) | (with_reducible refine Below.alloc ?_ (by first | omega | (simp; done) | (simp; omega) | (simp at *; omega)) _) | (with_reducible refine Below.setCell ?_ (by first | omega | (simp; done) | (simp; omega) | (simp at *; omega)) _) | (with_reducible exact Below.refl _ _) | (with_reducible assumption) | (with_reducible refine Below.trans ?_ (Below.mono (by assumption) (by first | omega | (simp; done) | (simp; omega) | (simp at *; omega)))))))⟩
  case round =>
    obtain ⟨k, p, v, rfl, rfl, rfl, hg, hk, c0, c1, c2, c3, sz, hB⟩ := hrel
    have n1 : w.heap.size < wr.heap.size := by omega
    have n2 : w.heap.size + 1 < wr.heap.size := by omega
    have n3 : wr.heap.size ≠ w.heap.size := by omega
    have n4 : wr.heap.size ≠ w.heap.size + 1 := by omega
    have n5 : w.heap.size ≠ wr.heap.size := by omega
    have n6 : w.heap.size + 1 ≠ wr.heap.size := by omega
    by_cases hkb : a + (k : Int) + 1 ≤ b
    · obtain ⟨x, hx⟩ : ∃ z, Hid (levLo m L (a + (k : Int) + 1) = z) := ⟨_, Lib.hid rfl⟩
      obtain ⟨y, hy⟩ : ∃ z, Hid (levHi m L (a + (k : Int) + 1) = z) := ⟨_, Lib.hid rfl⟩
      have ew2 : IntKind.i64.wrap (a + (k : Int) + 1 + 1) = a + (k : Int) + 1 + 1 := IntWalk.i64_in _ (by omega)
      have key : hgV m L a (k + 1) = if v < x then (a + (k : Int) + 1, x) else (p, v) := by rw [hgV, hg.out, hx.out]
      have KEY := Lib.hid key
      have f2 := rng_lo x y
      clear key hg
      go_wp2_with fail
      refine (refLevel_is m L A cap n (a + (k : Int) + 1) x y _ hn hl HW m0 m1 (by omega) (by omega) (Lib.hid (HR.out _ (by (repeat (first | (with_reducible refine Below.drew ?_) | (with_reducible refine below_drewN ?_ _) | (with_reducible refine Below.alloc ?_ (by first | omega | (simp; done) | (simp; omega) | (simp at *; omega)) _) | (with_reducible refine Below.setCell ?_ (by first | omega | (simp; done) | (simp; omega) | (simp at *; omega)) _) | (with_reducible exact Below.refl _ _) | (with_reducible assumption) | (with_reducible refine Below.trans ?_ (Below.mono (by assumption) (by first | omega | (simp; done) | (simp; omega) | (simp at *; omega))))))))) hx hy).mono ?_
      rintro e xw1 ⟨rfl, hbx1⟩
      have zx1 := hbx1.size
      try simp at zx1
      obtain ⟨x1_0_0, x1_0_1, x1_1_0, x1_1_1⟩ : xw1.cell? ⟨w.heap.size, 0, none⟩ = some (.int .i64 m) ∧ xw1.cell? ⟨w.heap.size, 1, none⟩ = some (.slice A n cap) ∧ xw1.cell? ⟨w.heap.size + 1, 0, none⟩ = some (.int .i64 a) ∧ xw1.cell? ⟨w.heap.size + 1, 1, none⟩ = some (.int .i64 b) := by refine ⟨?_, ?_, ?_, ?_⟩ <;> (rw [(bcell hbx1).1 _ _ (by first | (simp; done) | (simp; omega) | omega)]; simp [go_sem, World.cell?_alloc_past, *])
      obtain ⟨x1o0, x1n0, x1m0, x1t0_0, x1o1, x1n1, x1m1, x1t1_0⟩ : w.heap.size < xw1.heap.size ∧ xw1.heap.size ≠ w.heap.size ∧ w.heap.size ≠ xw1.heap.size ∧ w.heap.size < xw1.heap.size + 1 ∧ w.heap.size + 1 < xw1.heap.size ∧ xw1.heap.size ≠ w.heap.size + 1 ∧ w.heap.size + 1 ≠ xw1.heap.size ∧ w.heap.size + 1 < xw1.heap.size + 1 := by refine ⟨?_, ?_, ?_, ?_, ?_, ?_, ?_, ?_⟩ <;> omega
      have hBx1 : Below w.heap.size w xw1 := (by (repeat (first | (with_reducible refine Below.drew ?_) | (with_reducible refine below_drewN ?_ _) | (with_reducible refine Below.alloc ?_ (by first | omega | (simp; done) | (simp; omega) | (simp at *; omega)) _) | (with_reducible refine Below.setCell ?_ (by first | omega | (simp; done) | (simp; omega) | (simp at *; omega)) _) | (with_reducible exact Below.refl _ _) | (with_reducible assumption) | (with_reducible refine Below.trans ?_ (Below.mono (by assumption) (by first | omega | (simp; done) | (simp; omega) | (simp at *; omega)))))))
      clear hbx1 
      by_cases hvx : v < x
      · have hg2 : Hid (hgV m L a (k + 1) = (a + (k : Int) + 1, x)) := Lib.hid (by rw [KEY.out, if_pos hvx])
        go_wp2
        go_roundw
        case rel => exact ⟨k + 1, a + (k : Int) + 1, x, rfl, rfl, by first | rfl | (simp; omega) | (congr 1; omega), hg2, by omega, by simp [go_sem, *], by simp [go_sem, *], by simp [go_sem, *], by simp [go_sem, *], by first | omega | (simp; omega), (by (repeat (first | (with_reducible refine Below.drew ?_) | (with_reducible refine below_drewN ?_ _) | (with_reducible refine Below.alloc ?_ (by first | omega | (simp; done) | (simp; omega) | (simp at *; omega)) _) | (with_reducible refine Below.setCell ?_ (by first | omega | (simp; done) | (simp; omega) | (simp at *; omega)) _) | (with_reducible exact Below.refl _ _) | (with_reducible assumption) | (with_reducible refine Below.trans ?_ (Below.mono (by assumption) (by first | omega | (simp; done) | (simp; omega) | (simp at *; omega)))))))⟩
        case measure => (simp [intOf]) <;> omega
      · have hg2 : Hid (hgV m L a (k + 1) = (p, v)) := Lib.hid (by rw [KEY.out, if_neg hvx])
        go_wp2
        go_roundw
        case rel => exact ⟨k + 1, p, v, rfl, rfl, by first | rfl | (simp; omega) | (congr 1; omega), hg2, by omega, by simp [go_sem, *], by simp [go_sem, *], by simp [go_sem, *], by simp [go_sem, *], by first | omega | (simp; omega), (by (repeat (first | (with_reducible refine Below.drew ?_) | (with_reducible refine below_drewN ?_ _) | (with_reducible refine Below.alloc ?_ (by first | omega | (simp; done) | (simp; omega) | (simp at *; omega)) _) | (with_reducible refine Below.setCell ?_ (by first | omega | (simp; done) | (simp; omega) | (simp at *; omega)) _) | (with_reducible exact Below.refl _ _) | (with_reducible assumption) | (with_reducible refine Below.trans ?_ (Below.mono (by assumption) (by first | omega | (simp; done) | (simp; omega) | (simp at *; omega)))))))⟩
        case measure => (simp [intOf]) <;> omega
    · have hp : Hid (r = p) := Lib.hid (by rw [← hr.out, show (b - a).toNat = k by omega, hg.out])
      clear hg
      go_wp2
      go_ret
      exact ⟨ret_int hp.out.symm, (by (repeat (first | (with_reducible refine Below.drew ?_) | (with_reducible refine below_drewN ?_ _) | (with_reducible refine Below.alloc ?_ (by first | omega | (simp; done) | (simp; omega) | (simp at *; omega)) _) | (with_reducible refine Below.setCell ?_ (by first | omega | (simp; done) | (simp; omega) | (simp at *; omega)) _) | (with_reducible exact Below.refl _ _) | (with_reducible assumption) | (with_reducible refine Below.trans ?_ (Below.mono (by assumption) (by first | omega | (simp; done) | (simp; omega) | (simp at *; omega)))))))⟩
end Go.Proofs.YtojaompfffpofaaGreat
