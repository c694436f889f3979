/- The specification's FactorAt and RealAmount. -/
import Derived.Test.YtjkhjjmmkdfjmaaFFac3
import Derived.Test.YtjkhjjmmkdfjmaaFFlo
import Derived.Deep.CutBlock
import Derived.Outline
namespace Go.Proofs.Ytjkhjjmmkdfjmaa
open Go.ChangeShapes Go.WideShapes Go.ChangeAt Go.RowKit
set_option linter.unusedVariables false
set_option linter.unusedSimpArgs false
attribute [local go_sem ↓] Go.wp_at_zero Go.wp_at_succ
set_option maxHeartbeats 4000000 in
set_option maxRecDepth 100000 in
theorem rFA_above (L : List Fc) (b off cap n : Nat) (x : Int) (w : World) (hn : Hid (n = L.length)) (n0 : 0 < n) (n1 : n ≤ 20) (hlt : b < w.heap.size) (hL : RowsAt fcV 3 w b off L) (hall : ∀ j, j < n → (hj : j < L.length) → L[j].p < x) :
    Calls Try.prog 49 #[.slice (some ⟨b, off, none⟩) n cap, .int .i64 x] w fun e w' => e = .returned (.tuple #[.agg #[.int .i64 0, .int .i64 0], .bool false]) ∧ Below w.heap.size w w' := by
  have HP := Lib.hid hL
  clear hL
  go_enter Try.func49, Try.ntmps49
  go_wp2
  go_loopw [6] (fun i wr => ∃ k : Nat, k ≤ n ∧ i = .int .i64 k ∧ wr.cell? ⟨w.heap.size, 0, none⟩ = some (.int .i64 0) ∧ wr.cell? ⟨w.heap.size, 1, none⟩ = some (.int .i64 0) ∧ (∀ j, wr.frozen? ⟨w.heap.size, j, none⟩ = false) ∧ w.heap.size < wr.heap.size ∧ Below w.heap.size w wr) (fun i _ => n - (intOf i).toNat)
  case atStart => exact ⟨0, by omega, rfl, by simp [go_sem], by simp [go_sem], by intro j; simp [go_sem], by simp, (by (repeat (first | (with_reducible refine Below.drew ?_) | (with_reducible refine below_drewN ?_ _) | (with_reducible refine Below.alloc ?_ (by first | omega | (simp; done) | (simp; omega) | (simp at *; omega)) _) | (with_reducible refine Below.setCell ?_ (by first | omega | (simp; done) | (simp; omega) | (simp at *; omega)) _) | (with_reducible exact Below.refl _ _) | (with_reducible assumption) | (with_reducible refine Below.trans ?_ (Below.mono (by assumption) (by first | omega | (simp; done) | (simp; omega) | (simp at *; omega)))))))⟩
  case round =>
    obtain ⟨k, hk, rfl, s0, s1, sf, sz, hB⟩ := hrel
    have lb : b < wr.heap.size := by omega
    by_cases hkn : k < n
    · skip
      have hkl : k < L.length := by have := hn.out; omega
      have kn : (k : Int) < (n : Int) := by omega
      obtain ⟨c0, c1, c2⟩ := fc_at (HP.out.below hB hlt) hkl
      obtain ⟨p0, h0⟩ : ∃ x, Hid (L[k].p = x) := ⟨L[k].p, Lib.hid rfl⟩
      obtain ⟨p1, h1⟩ : ∃ x, Hid (L[k].l = x) := ⟨L[k].l, Lib.hid rfl⟩
      obtain ⟨p2, h2⟩ : ∃ x, Hid (L[k].u = x) := ⟨L[k].u, Lib.hid rfl⟩
      rw [h0.out] at c0
      rw [h1.out] at c1
      rw [h2.out] at c2
      have hx : p0 < x := by rw [← h0.out]; exact hall k (by omega) hkl
      have hxe : (p0 == x) = false := by simp; omega
      have hxn : ¬ p0 = x := by omega
      rcases k with _ | j
      · simp only [Nat.zero_mul, Nat.add_zero] at c0 c1 c2
        clear hall
        go_wp2
        go_roundw
        case rel => exact ⟨0 + 1, by omega, by go_num, s0, s1, sf, by first | omega | (simp; omega), (by (repeat (first | (with_reducible refine Below.drew ?_) | (with_reducible refine below_drewN ?_ _) | (with_reducible refine Below.alloc ?_ (by first | omega | (simp; done) | (simp; omega) | (simp at *; omega)) _) | (with_reducible refine Below.setCell ?_ (by first | omega | (simp; done) | (simp; omega) | (simp at *; omega)) _) | (with_reducible exact Below.refl _ _) | (with_reducible assumption) | (with_reducible refine Below.trans ?_ (Below.mono (by assumption) (by first | omega | (simp; done) | (simp; omega) | (simp at *; omega)))))))⟩
        case measure => (simp [intOf]; omega)
      · obtain ⟨b0, b1, b2⟩ := fc_at (HP.out.below hB hlt) (show j < L.length by omega)
        obtain ⟨q0, g0⟩ : ∃ x, Hid ((L[j]'(by omega)).p = x) := ⟨_, Lib.hid rfl⟩
        obtain ⟨q1, g1⟩ : ∃ x, Hid ((L[j]'(by omega)).l = x) := ⟨_, Lib.hid rfl⟩
        obtain ⟨q2, g2⟩ : ∃ x, Hid ((L[j]'(by omega)).u = x) := ⟨_, Lib.hid rfl⟩
        rw [g0.out] at b0
        rw [g1.out] at b1
        rw [g2.out] at b2
        have eJ : ((j + 1 : Nat) : Int) = (j : Int) + 1 := by omega
        have wJ : IntKind.i64.wrap ((j : Int) + 1 - 1) = (j : Int) := by rw [show (j : Int) + 1 - 1 = (j : Int) by omega]; exact IntWalk.i64_in _ (by omega)
        have wJ2 : IntKind.i64.wrap (j : Int) = (j : Int) := IntWalk.i64_in _ (by omega)
        have jp : (0 : Int) < (j : Int) + 1 := by omega
        have jp1 : (0 : Int) ≤ (j : Int) + 1 := by omega
        have jp2 : (0 : Int) ≤ (j : Int) := by omega
        have jn : (j : Int) + 1 < (n : Int) := by omega
        have jn2 : (j : Int) < (n : Int) := by omega
        have hx2 : q0 < x := by rw [← g0.out]; exact hall j (by omega) (by omega)
        have hx3 : ¬ x < p0 := by omega
        clear hall
        go_wp2
        go_roundw
        case rel => exact ⟨(j + 1) + 1, by omega, by go_num, s0, s1, sf, by first | omega | (simp; omega), (by (repeat (first | (with_reducible refine Below.drew ?_) | (with_reducible refine below_drewN ?_ _) | (with_reducible refine Below.alloc ?_ (by first | omega | (simp; done) | (simp; omega) | (simp at *; omega)) _) | (with_reducible refine Below.setCell ?_ (by first | omega | (simp; done) | (simp; omega) | (simp at *; omega)) _) | (with_reducible exact Below.refl _ _) | (with_reducible assumption) | (with_reducible refine Below.trans ?_ (Below.mono (by assumption) (by first | omega | (simp; done) | (simp; omega) | (simp at *; omega)))))))⟩
        case measure => (simp [intOf]; omega)
    · have kn : ¬ (k : Int) < (n : Int) := by omega
      clear hall
      go_wp2
      refine bodyPost_ret (v := .tuple #[.agg #[.int .i64 0, .int .i64 0], .bool false]) (by simp [results, Try.results49, go_sem, *]) rfl ⟨rfl, ?_⟩
      (repeat (first | (with_reducible refine Below.drew ?_) | (with_reducible refine below_drewN ?_ _) | (with_reducible refine Below.alloc ?_ (by first | omega | (simp; done) | (simp; omega) | (simp at *; omega)) _) | (with_reducible refine Below.setCell ?_ (by first | omega | (simp; done) | (simp; omega) | (simp at *; omega)) _) | (with_reducible exact Below.refl _ _) | (with_reducible assumption) | (with_reducible refine Below.trans ?_ (Below.mono (by assumption) (by first | omega | (simp; done) | (simp; omega) | (simp at *; omega))))))
set_option maxHeartbeats 4000000 in
set_option maxRecDepth 100000 in
theorem rFA_under (L : List Fc) (b off cap n : Nat) (x : Int) (w : World) (hn : Hid (n = L.length)) (n0 : 0 < n) (n1 : n ≤ 20) (hlt : b < w.heap.size) (hL : RowsAt fcV 3 w b off L) (hall : ∀ j, j < n → (hj : j < L.length) → x < L[j].p) :
    Calls Try.prog 49 #[.slice (some ⟨b, off, none⟩) n cap, .int .i64 x] w fun e w' => e = .returned (.tuple #[.agg #[.int .i64 0, .int .i64 0], .bool false]) ∧ Below w.heap.size w w' := by
  have HP := Lib.hid hL
  clear hL
  go_enter Try.func49, Try.ntmps49
  go_wp2
  go_loopw [6] (fun i wr => ∃ k : Nat, k ≤ n ∧ i = .int .i64 k ∧ wr.cell? ⟨w.heap.size, 0, none⟩ = some (.int .i64 0) ∧ wr.cell? ⟨w.heap.size, 1, none⟩ = some (.int .i64 0) ∧ (∀ j, wr.frozen? ⟨w.heap.size, j, none⟩ = false) ∧ w.heap.size < wr.heap.size ∧ Below w.heap.size w wr) (fun i _ => n - (intOf i).toNat)
  case atStart => exact ⟨0, by omega, rfl, by simp [go_sem], by simp [go_sem], by intro j; simp [go_sem], by simp, (by (repeat (first | (with_reducible refine Below.drew ?_) | (with_reducible refine below_drewN ?_ _) | (with_reducible refine Below.alloc ?_ (by first | omega | (simp; done) | (simp; omega) | (simp at *; omega)) _) | (with_reducible refine Below.setCell ?_ (by first | omega | (simp; done) | (simp; omega) | (simp at *; omega)) _) | (with_reducible exact Below.refl _ _) | (with_reducible assumption) | (with_reducible refine Below.trans ?_ (Below.mono (by assumption) (by first | omega | (simp; done) | (simp; omega) | (simp at *; omega)))))))⟩
  case round =>
    obtain ⟨k, hk, rfl, s0, s1, sf, sz, hB⟩ := hrel
    have lb : b < wr.heap.size := by omega
    by_cases hkn : k < n
    · skip
      have hkl : k < L.length := by have := hn.out; omega
      have kn : (k : Int) < (n : Int) := by omega
      obtain ⟨c0, c1, c2⟩ := fc_at (HP.out.below hB hlt) hkl
      obtain ⟨p0, h0⟩ : ∃ x, Hid (L[k].p = x) := ⟨L[k].p, Lib.hid rfl⟩
      obtain ⟨p1, h1⟩ : ∃ x, Hid (L[k].l = x) := ⟨L[k].l, Lib.hid rfl⟩
      obtain ⟨p2, h2⟩ : ∃ x, Hid (L[k].u = x) := ⟨L[k].u, Lib.hid rfl⟩
      rw [h0.out] at c0
      rw [h1.out] at c1
      rw [h2.out] at c2
      have hx : x < p0 := by rw [← h0.out]; exact hall k (by omega) hkl
      have hxe : (p0 == x) = false := by simp; omega
      have hxn : ¬ p0 = x := by omega
      rcases k with _ | j
      · simp only [Nat.zero_mul, Nat.add_zero] at c0 c1 c2
        clear hall
        go_wp2
        go_roundw
        case rel => exact ⟨0 + 1, by omega, by go_num, s0, s1, sf, by first | omega | (simp; omega), (by (repeat (first | (with_reducible refine Below.drew ?_) | (with_reducible refine below_drewN ?_ _) | (with_reducible refine Below.alloc ?_ (by first | omega | (simp; done) | (simp; omega) | (simp at *; omega)) _) | (with_reducible refine Below.setCell ?_ (by first | omega | (simp; done) | (simp; omega) | (simp at *; omega)) _) | (with_reducible exact Below.refl _ _) | (with_reducible assumption) | (with_reducible refine Below.trans ?_ (Below.mono (by assumption) (by first | omega | (simp; done) | (simp; omega) | (simp at *; omega)))))))⟩
        case measure => (simp [intOf]; omega)
      · obtain ⟨b0, b1, b2⟩ := fc_at (HP.out.below hB hlt) (show j < L.length by omega)
        obtain ⟨q0, g0⟩ : ∃ x, Hid ((L[j]'(by omega)).p = x) := ⟨_, Lib.hid rfl⟩
        obtain ⟨q1, g1⟩ : ∃ x, Hid ((L[j]'(by omega)).l = x) := ⟨_, Lib.hid rfl⟩
        obtain ⟨q2, g2⟩ : ∃ x, Hid ((L[j]'(by omega)).u = x) := ⟨_, Lib.hid rfl⟩
        rw [g0.out] at b0
        rw [g1.out] at b1
        rw [g2.out] at b2
        have eJ : ((j + 1 : Nat) : Int) = (j : Int) + 1 := by omega
        have wJ : IntKind.i64.wrap ((j : Int) + 1 - 1) = (j : Int) := by rw [show (j : Int) + 1 - 1 = (j : Int) by omega]; exact IntWalk.i64_in _ (by omega)
        have wJ2 : IntKind.i64.wrap (j : Int) = (j : Int) := IntWalk.i64_in _ (by omega)
        have jp : (0 : Int) < (j : Int) + 1 := by omega
        have jp1 : (0 : Int) ≤ (j : Int) + 1 := by omega
        have jp2 : (0 : Int) ≤ (j : Int) := by omega
        have jn : (j : Int) + 1 < (n : Int) := by omega
        have jn2 : (j : Int) < (n : Int) := by omega
        have hx2 : ¬ q0 < x := by have := hall j (by omega) (by omega); rw [g0.out] at this; omega
        clear hall
        go_wp2
        go_roundw
        case rel => exact ⟨(j + 1) + 1, by omega, by go_num, s0, s1, sf, by first | omega | (simp; omega), (by (repeat (first | (with_reducible refine Below.drew ?_) | (with_reducible refine below_drewN ?_ _) | (with_reducible refine Below.alloc ?_ (by first | omega | (simp; done) | (simp; omega) | (simp at *; omega)) _) | (with_reducible refine Below.setCell ?_ (by first | omega | (simp; done) | (simp; omega) | (simp at *; omega)) _) | (with_reducible exact Below.refl _ _) | (with_reducible assumption) | (with_reducible refine Below.trans ?_ (Below.mono (by assumption) (by first | omega | (simp; done) | (simp; omega) | (simp at *; omega)))))))⟩
        case measure => (simp [intOf]; omega)
    · have kn : ¬ (k : Int) < (n : Int) := by omega
      clear hall
      go_wp2
      refine bodyPost_ret (v := .tuple #[.agg #[.int .i64 0, .int .i64 0], .bool false]) (by simp [results, Try.results49, go_sem, *]) rfl ⟨rfl, ?_⟩
      (repeat (first | (with_reducible refine Below.drew ?_) | (with_reducible refine below_drewN ?_ _) | (with_reducible refine Below.alloc ?_ (by first | omega | (simp; done) | (simp; omega) | (simp at *; omega)) _) | (with_reducible refine Below.setCell ?_ (by first | omega | (simp; done) | (simp; omega) | (simp at *; omega)) _) | (with_reducible exact Below.refl _ _) | (with_reducible assumption) | (with_reducible refine Below.trans ?_ (Below.mono (by assumption) (by first | omega | (simp; done) | (simp; omega) | (simp at *; omega))))))
set_option maxHeartbeats 4000000 in
set_option maxRecDepth 100000 in
theorem rFA_hit (L : List Fc) (b off cap n : Nat) (x : Int) (g : Nat) (li ui : Int) (w : World) (hn : Hid (n = L.length)) (n0 : 0 < n) (n1 : n ≤ 20) (hlt : b < w.heap.size) (hL : RowsAt fcV 3 w b off L) (hin : g < n) (hall : ∀ j, j < g → (hj : j < L.length) → L[j].p < x) (h0 : Hid ((L[g]'(by have := hn.out; omega)).p = x)) (h1 : Hid ((L[g]'(by have := hn.out; omega)).l = li)) (h2 : Hid ((L[g]'(by have := hn.out; omega)).u = ui)) :
    Calls Try.prog 49 #[.slice (some ⟨b, off, none⟩) n cap, .int .i64 x] w fun e w' => e = .returned (.tuple #[.agg #[.int .i64 li, .int .i64 ui], .bool true]) ∧ Below w.heap.size w w' := by
  have HP := Lib.hid hL
  clear hL
  go_enter Try.func49, Try.ntmps49
  go_wp2
  go_loopw [6] (fun i wr => ∃ k : Nat, k ≤ g ∧ i = .int .i64 k ∧ wr.cell? ⟨w.heap.size, 0, none⟩ = some (.int .i64 0) ∧ wr.cell? ⟨w.heap.size, 1, none⟩ = some (.int .i64 0) ∧ (∀ j, wr.frozen? ⟨w.heap.size, j, none⟩ = false) ∧ w.heap.size < wr.heap.size ∧ Below w.heap.size w wr) (fun i _ => n - (intOf i).toNat)
  case atStart => exact ⟨0, by omega, rfl, by simp [go_sem], by simp [go_sem], by intro j; simp [go_sem], by simp, (by (repeat (first | (with_reducible refine Below.drew ?_) | (with_reducible refine below_drewN ?_ _) | (with_reducible refine Below.alloc ?_ (by first | omega | (simp; done) | (simp; omega) | (simp at *; omega)) _) | (with_reducible refine Below.setCell ?_ (by first | omega | (simp; done) | (simp; omega) | (simp at *; omega)) _) | (with_reducible exact Below.refl _ _) | (with_reducible assumption) | (with_reducible refine Below.trans ?_ (Below.mono (by assumption) (by first | omega | (simp; done) | (simp; omega) | (simp at *; omega)))))))⟩
  case round =>
    obtain ⟨k, hk, rfl, s0, s1, sf, sz, hB⟩ := hrel
    have lb : b < wr.heap.size := by omega
    by_cases hkn : k < g
    · clear h0 h1 h2
      have hkl : k < L.length := by have := hn.out; omega
      have kn : (k : Int) < (n : Int) := by omega
      obtain ⟨c0, c1, c2⟩ := fc_at (HP.out.below hB hlt) hkl
      obtain ⟨p0, h0⟩ : ∃ x, Hid (L[k].p = x) := ⟨L[k].p, Lib.hid rfl⟩
      obtain ⟨p1, h1⟩ : ∃ x, Hid (L[k].l = x) := ⟨L[k].l, Lib.hid rfl⟩
      obtain ⟨p2, h2⟩ : ∃ x, Hid (L[k].u = x) := ⟨L[k].u, Lib.hid rfl⟩
      rw [h0.out] at c0
      rw [h1.out] at c1
      rw [h2.out] at c2
      have hx : p0 < x := by rw [← h0.out]; exact hall k (by omega) hkl
      have hxe : (p0 == x) = false := by simp; omega
      have hxn : ¬ p0 = x := by omega
      rcases k with _ | j
      · simp only [Nat.zero_mul, Nat.add_zero] at c0 c1 c2
        clear hall
        go_wp2
        go_roundw
        case rel => exact ⟨0 + 1, by omega, by go_num, s0, s1, sf, by first | omega | (simp; omega), (by (repeat (first | (with_reducible refine Below.drew ?_) | (with_reducible refine below_drewN ?_ _) | (with_reducible refine Below.alloc ?_ (by first | omega | (simp; done) | (simp; omega) | (simp at *; omega)) _) | (with_reducible refine Below.setCell ?_ (by first | omega | (simp; done) | (simp; omega) | (simp at *; omega)) _) | (with_reducible exact Below.refl _ _) | (with_reducible assumption) | (with_reducible refine Below.trans ?_ (Below.mono (by assumption) (by first | omega | (simp; done) | (simp; omega) | (simp at *; omega)))))))⟩
        case measure => (simp [intOf]; omega)
      · obtain ⟨b0, b1, b2⟩ := fc_at (HP.out.below hB hlt) (show j < L.length by omega)
        obtain ⟨q0, g0⟩ : ∃ x, Hid ((L[j]'(by omega)).p = x) := ⟨_, Lib.hid rfl⟩
        obtain ⟨q1, g1⟩ : ∃ x, Hid ((L[j]'(by omega)).l = x) := ⟨_, Lib.hid rfl⟩
        obtain ⟨q2, g2⟩ : ∃ x, Hid ((L[j]'(by omega)).u = x) := ⟨_, Lib.hid rfl⟩
        rw [g0.out] at b0
        rw [g1.out] at b1
        rw [g2.out] at b2
        have eJ : ((j + 1 : Nat) : Int) = (j : Int) + 1 := by omega
        have wJ : IntKind.i64.wrap ((j : Int) + 1 - 1) = (j : Int) := by rw [show (j : Int) + 1 - 1 = (j : Int) by omega]; exact IntWalk.i64_in _ (by omega)
        have wJ2 : IntKind.i64.wrap (j : Int) = (j : Int) := IntWalk.i64_in _ (by omega)
        have jp : (0 : Int) < (j : Int) + 1 := by omega
        have jp1 : (0 : Int) ≤ (j : Int) + 1 := by omega
        have jp2 : (0 : Int) ≤ (j : Int) := by omega
        have jn : (j : Int) + 1 < (n : Int) := by omega
        have jn2 : (j : Int) < (n : Int) := by omega
        have hx2 : q0 < x := by rw [← g0.out]; exact hall j (by omega) (by omega)
        have hx3 : ¬ x < p0 := by omega
        clear hall
        go_wp2
        go_roundw
        case rel => exact ⟨(j + 1) + 1, by omega, by go_num, s0, s1, sf, by first | omega | (simp; omega), (by (repeat (first | (with_reducible refine Below.drew ?_) | (with_reducible refine below_drewN ?_ _) | (with_reducible refine Below.alloc ?_ (by first | omega | (simp; done) | (simp; omega) | (simp at *; omega)) _) | (with_reducible refine Below.setCell ?_ (by first | omega | (simp; done) | (simp; omega) | (simp at *; omega)) _) | (with_reducible exact Below.refl _ _) | (with_reducible assumption) | (with_reducible refine Below.trans ?_ (Below.mono (by assumption) (by first | omega | (simp; done) | (simp; omega) | (simp at *; omega)))))))⟩
        case measure => (simp [intOf]; omega)
    · obtain rfl : k = g := by omega
      have hkl : k < L.length := by have := hn.out; omega
      have kn : (k : Int) < (n : Int) := by omega
      obtain ⟨c0, c1, c2⟩ := fc_at (HP.out.below hB hlt) hkl
      rw [h0.out] at c0
      rw [h1.out] at c1
      rw [h2.out] at c2
      clear hall
      go_wp2
      refine bodyPost_ret (v := .tuple #[.agg #[.int .i64 li, .int .i64 ui], .bool true]) (by simp [results, Try.results49, go_sem, *]) rfl ⟨rfl, ?_⟩
      (repeat (first | (with_reducible refine Below.drew ?_) | (with_reducible refine below_drewN ?_ _) | (with_reducible refine Below.alloc ?_ (by first | omega | (simp; done) | (simp; omega) | (simp at *; omega)) _) | (with_reducible refine Below.setCell ?_ (by first | omega | (simp; done) | (simp; omega) | (simp at *; omega)) _) | (with_reducible exact Below.refl _ _) | (with_reducible assumption) | (with_reducible refine Below.trans ?_ (Below.mono (by assumption) (by first | omega | (simp; done) | (simp; omega) | (simp at *; omega))))))
/-- Both rows lie in blocks of their own. -/
def FA7 (pj lj uj pi li ui : Int) (w : World) (s7 s8 : Value) (wx : World) : Prop := ∃ m n, s7 = .pointer (some ⟨m, 0, none⟩) ∧ s8 = .pointer (some ⟨n, 0, none⟩) ∧ m < wx.heap.size ∧ n < wx.heap.size ∧ w.heap.size < m ∧ w.heap.size < n ∧ w.heap.size < wx.heap.size ∧ (wx.cell? ⟨m, 0, none⟩ = some (.int .i64 pj) ∧ wx.cell? ⟨m, 1, none⟩ = some (.int .i64 lj) ∧ wx.cell? ⟨m, 2, none⟩ = some (.int .i64 uj) ∧ wx.cell? ⟨n, 0, none⟩ = some (.int .i64 pi) ∧ wx.cell? ⟨n, 1, none⟩ = some (.int .i64 li) ∧ wx.cell? ⟨n, 2, none⟩ = some (.int .i64 ui)) ∧ wx.cell? ⟨w.heap.size, 0, none⟩ = some (.int .i64 0) ∧ wx.cell? ⟨w.heap.size, 1, none⟩ = some (.int .i64 0) ∧ (∀ j, wx.frozen? ⟨w.heap.size, j, none⟩ = false) ∧ Below w.heap.size w wx
set_option maxHeartbeats 4000000 in
set_option maxRecDepth 100000 in
theorem rFA_mid (L : List Fc) (b off cap n : Nat) (x : Int) (j : Nat) (pj lj uj pi li ui d s t P1 P2 P3 P4 n' m' q r : Int) (w : World) (hn : Hid (n = L.length)) (n0 : 0 < n) (n1 : n ≤ 20) (hlt : b < w.heap.size) (hL : RowsAt fcV 3 w b off L) (hin : j + 1 < n) (hall : ∀ q, q < j + 1 → (hj : q < L.length) → L[q].p < x) (jh0 : Hid ((L[j]'(by have := hn.out; omega)).p = pj)) (jh1 : Hid ((L[j]'(by have := hn.out; omega)).l = lj)) (jh2 : Hid ((L[j]'(by have := hn.out; omega)).u = uj)) (ih0 : Hid ((L[j + 1]'(by have := hn.out; omega)).p = pi)) (ih1 : Hid ((L[j + 1]'(by have := hn.out; omega)).l = li)) (ih2 : Hid ((L[j + 1]'(by have := hn.out; omega)).u = ui)) (a0 : 0 ≤ pj) (ax : pj < x) (xb : x < pi) (b1 : pi ≤ 400000) (al0 : 0 ≤ lj) (al1 : lj ≤ 2000) (au0 : 0 ≤ uj) (au1 : uj ≤ 2000) (bl0 : 0 ≤ li) (bl1 : li ≤ 2000) (bu0 : 0 ≤ ui) (bu1 : ui ≤ 2000) (hd : Hid (pi - pj = d)) (hs : Hid (x - pj = s)) (ht : Hid (d - s = t)) (hn1 : Hid (lj * t = P1 ∧ li * s = P2 ∧ uj * t = P3 ∧ ui * s = P4)) (hn2 : Hid (P1 + P2 = n' ∧ P3 + P4 = m')) (hq : Hid (n' / d = q)) (hr : Hid (upI m' d = r)) :
    Calls Try.prog 49 #[.slice (some ⟨b, off, none⟩) n cap, .int .i64 x] w fun e w' => e = .returned (.tuple #[.agg #[.int .i64 q, .int .i64 r], .bool true]) ∧ Below w.heap.size w w' := by
  have d0 : 1 ≤ d ∧ d ≤ 400000 := by have := hd.out; omega
  obtain ⟨d0, d1⟩ := d0
  have sb : 0 ≤ s ∧ s ≤ 400000 := by have := hs.out; omega
  have tb : 0 ≤ t ∧ t ≤ 400000 := by have := hd.out; have := hs.out; have := ht.out; omega
  have mb : ∀ a b : Int, 0 ≤ a → a ≤ 2000 → 0 ≤ b → b ≤ 400000 → 0 ≤ a * b ∧ a * b ≤ 800000000 := fun a b h1 h2 h3 h4 => ⟨Int.mul_nonneg h1 h3, Int.le_trans (Int.mul_le_mul h2 h4 h3 (by omega)) (by omega)⟩
  have m1 := mb lj t al0 al1 tb.1 tb.2
  have m2 := mb li s bl0 bl1 sb.1 sb.2
  have m3 := mb uj t au0 au1 tb.1 tb.2
  have m4 := mb ui s bu0 bu1 sb.1 sb.2
  rw [hn1.out.1] at m1
  rw [hn1.out.2.1] at m2
  rw [hn1.out.2.2.1] at m3
  rw [hn1.out.2.2.2] at m4
  have u1 : IntKind.i64.wrap (pi - pj) = d := by rw [hd.out]; exact IntWalk.i64_in _ (by omega)
  have u2 : IntKind.i64.wrap (x - pj) = s := by rw [hs.out]; exact IntWalk.i64_in _ (by omega)
  have u3 : IntKind.i64.wrap (d - s) = t := by rw [ht.out]; exact IntWalk.i64_in _ (by omega)
  have u4 : IntKind.i64.wrap (lj * t) = P1 := by rw [hn1.out.1]; exact IntWalk.i64_in _ (by omega)
  have u5 : IntKind.i64.wrap (li * s) = P2 := by rw [hn1.out.2.1]; exact IntWalk.i64_in _ (by omega)
  have u6 : IntKind.i64.wrap (uj * t) = P3 := by rw [hn1.out.2.2.1]; exact IntWalk.i64_in _ (by omega)
  have u7 : IntKind.i64.wrap (ui * s) = P4 := by rw [hn1.out.2.2.2]; exact IntWalk.i64_in _ (by omega)
  have u8 : IntKind.i64.wrap (P1 + P2) = n' := by rw [hn2.out.1]; exact IntWalk.i64_in _ (by have := hn2.out.1; omega)
  have u9 : IntKind.i64.wrap (P3 + P4) = m' := by rw [hn2.out.2]; exact IntWalk.i64_in _ (by have := hn2.out.2; omega)
  have nb' : 0 ≤ n' ∧ n' ≤ 1600000000 := by have := hn2.out.1; omega
  have mb' : 0 ≤ m' ∧ m' ≤ 1600000000 := by have := hn2.out.2; omega
  obtain ⟨nb1, nb2⟩ := nb'
  obtain ⟨mb1, mb2⟩ := mb'
  have v1 : pi - pj = d := hd.out
  have v2 : x - pj = s := hs.out
  have v3 : d - s = t := ht.out
  have v4 : P1 + P2 = n' := hn2.out.1
  have v5 : P3 + P4 = m' := hn2.out.2
  have VV := Lib.hid (And.intro v1 (And.intro v2 (And.intro v3 (And.intro v4 v5))))
  clear mb m1 m2 m3 m4 hd hs ht hn1 hn2 v1 v2 v3 v4 v5
  have HP := Lib.hid hL
  clear hL
  go_enter Try.func49, Try.ntmps49
  go_wp2
  go_loopw [6] (fun i wr => ∃ k : Nat, k ≤ j + 1 ∧ i = .int .i64 k ∧ wr.cell? ⟨w.heap.size, 0, none⟩ = some (.int .i64 0) ∧ wr.cell? ⟨w.heap.size, 1, none⟩ = some (.int .i64 0) ∧ (∀ j, wr.frozen? ⟨w.heap.size, j, none⟩ = false) ∧ w.heap.size < wr.heap.size ∧ Below w.heap.size w wr) (fun i _ => n - (intOf i).toNat)
  case atStart => exact ⟨0, by omega, rfl, by simp [go_sem], by simp [go_sem], by intro j; simp [go_sem], by simp, (by (repeat (first | (with_reducible refine Below.drew ?_) | (with_reducible refine below_drewN ?_ _) | (with_reducible refine Below.alloc ?_ (by first | omega | (simp; done) | (simp; omega) | (simp at *; omega)) _) | (with_reducible refine Below.setCell ?_ (by first | omega | (simp; done) | (simp; omega) | (simp at *; omega)) _) | (with_reducible exact Below.refl _ _) | (with_reducible assumption) | (with_reducible refine Below.trans ?_ (Below.mono (by assumption) (by first | omega | (simp; done) | (simp; omega) | (simp at *; omega)))))))⟩
  case round =>
    obtain ⟨k, hk, rfl, s0, s1, sf, sz, hB⟩ := hrel
    have lb : b < wr.heap.size := by omega
    by_cases hkn : k < j + 1
    · clear jh0 jh1 jh2 ih0 ih1 ih2
      have hkl : k < L.length := by have := hn.out; omega
      have kn : (k : Int) < (n : Int) := by omega
      obtain ⟨c0, c1, c2⟩ := fc_at (HP.out.below hB hlt) hkl
      obtain ⟨p0, h0⟩ : ∃ x, Hid (L[k].p = x) := ⟨L[k].p, Lib.hid rfl⟩
      obtain ⟨p1, h1⟩ : ∃ x, Hid (L[k].l = x) := ⟨L[k].l, Lib.hid rfl⟩
      obtain ⟨p2, h2⟩ : ∃ x, Hid (L[k].u = x) := ⟨L[k].u, Lib.hid rfl⟩
      rw [h0.out] at c0
      rw [h1.out] at c1
      rw [h2.out] at c2
      have hx : p0 < x := by rw [← h0.out]; exact hall k (by omega) hkl
      have hxe : (p0 == x) = false := by simp; omega
      have hxn : ¬ p0 = x := by omega
      rcases k with _ | z
      · simp only [Nat.zero_mul, Nat.add_zero] at c0 c1 c2
        clear hall
        go_wp2
        go_roundw
        case rel => exact ⟨0 + 1, by omega, by go_num, s0, s1, sf, by first | omega | (simp; omega), (by (repeat (first | (with_reducible refine Below.drew ?_) | (with_reducible refine below_drewN ?_ _) | (with_reducible refine Below.alloc ?_ (by first | omega | (simp; done) | (simp; omega) | (simp at *; omega)) _) | (with_reducible refine Below.setCell ?_ (by first | omega | (simp; done) | (simp; omega) | (simp at *; omega)) _) | (with_reducible exact Below.refl _ _) | (with_reducible assumption) | (with_reducible refine Below.trans ?_ (Below.mono (by assumption) (by first | omega | (simp; done) | (simp; omega) | (simp at *; omega)))))))⟩
        case measure => (simp [intOf]; omega)
      · obtain ⟨b0, b1, b2⟩ := fc_at (HP.out.below hB hlt) (show z < L.length by omega)
        obtain ⟨q0, g0⟩ : ∃ x, Hid ((L[z]'(by omega)).p = x) := ⟨_, Lib.hid rfl⟩
        obtain ⟨q1, g1⟩ : ∃ x, Hid ((L[z]'(by omega)).l = x) := ⟨_, Lib.hid rfl⟩
        obtain ⟨q2, g2⟩ : ∃ x, Hid ((L[z]'(by omega)).u = x) := ⟨_, Lib.hid rfl⟩
        rw [g0.out] at b0
        rw [g1.out] at b1
        rw [g2.out] at b2
        have eJ : ((z + 1 : Nat) : Int) = (z : Int) + 1 := by omega
        have wJ : IntKind.i64.wrap ((z : Int) + 1 - 1) = (z : Int) := by rw [show (z : Int) + 1 - 1 = (z : Int) by omega]; exact IntWalk.i64_in _ (by omega)
        have wJ2 : IntKind.i64.wrap (z : Int) = (z : Int) := IntWalk.i64_in _ (by omega)
        have jp : (0 : Int) < (z : Int) + 1 := by omega
        have jp1 : (0 : Int) ≤ (z : Int) + 1 := by omega
        have jp2 : (0 : Int) ≤ (z : Int) := by omega
        have jn : (z : Int) + 1 < (n : Int) := by omega
        have jn2 : (z : Int) < (n : Int) := by omega
        have hx2 : q0 < x := by rw [← g0.out]; exact hall z (by omega) (by omega)
        have hx3 : ¬ x < p0 := by omega
        clear hall
        go_wp2
        go_roundw
        case rel => exact ⟨(z + 1) + 1, by omega, by go_num, s0, s1, sf, by first | omega | (simp; omega), (by (repeat (first | (with_reducible refine Below.drew ?_) | (with_reducible refine below_drewN ?_ _) | (with_reducible refine Below.alloc ?_ (by first | omega | (simp; done) | (simp; omega) | (simp at *; omega)) _) | (with_reducible refine Below.setCell ?_ (by first | omega | (simp; done) | (simp; omega) | (simp at *; omega)) _) | (with_reducible exact Below.refl _ _) | (with_reducible assumption) | (with_reducible refine Below.trans ?_ (Below.mono (by assumption) (by first | omega | (simp; done) | (simp; omega) | (simp at *; omega)))))))⟩
        case measure => (simp [intOf]; omega)
    · obtain rfl : k = j + 1 := by omega
      have hkl : j + 1 < L.length := by have := hn.out; omega
      obtain ⟨c0, c1, c2⟩ := fc_at (HP.out.below hB hlt) hkl
      rw [ih0.out] at c0
      rw [ih1.out] at c1
      rw [ih2.out] at c2
      obtain ⟨e0, e1, e2⟩ := fc_at (HP.out.below hB hlt) (show j < L.length by omega)
      rw [jh0.out] at e0
      rw [jh1.out] at e1
      rw [jh2.out] at e2
      have eJ : ((j + 1 : Nat) : Int) = (j : Int) + 1 := by omega
      have wJ : IntKind.i64.wrap ((j : Int) + 1 - 1) = (j : Int) := by rw [show (j : Int) + 1 - 1 = (j : Int) by omega]; exact IntWalk.i64_in _ (by omega)
      have wJ2 : IntKind.i64.wrap (j : Int) = (j : Int) := IntWalk.i64_in _ (by omega)
      have jp : (0 : Int) < (j : Int) + 1 := by omega
      have jp1 : (0 : Int) ≤ (j : Int) + 1 := by omega
      have jp2 : (0 : Int) ≤ (j : Int) := by omega
      have jn : (j : Int) + 1 < (n : Int) := by omega
      have jn2 : (j : Int) < (n : Int) := by omega
      have hxe : (pi == x) = false := by simp; omega
      have hxn : ¬ pi = x := by omega
      have nw : w.heap.size ≠ wr.heap.size := by omega
      have nw1 : w.heap.size ≠ wr.heap.size + 1 := by omega
      have nb0 : b ≠ wr.heap.size := by omega
      have nb01 : b ≠ wr.heap.size + 1 := by omega
      clear hall
      go_upto_region 7 with (fail)
      go_cut [7, 8] from 50 to 58 (fun s7 s8 wx => FA7 pj lj uj pi li ui w s7 s8 wx)
      case first =>
        refine wp_region_held_drew (S := (fun w' => w'.cell? ⟨b, off + (j + 1) * 3, none⟩ = some (.int .i64 pi) ∧ w'.cell? ⟨b, off + (j + 1) * 3 + 1, none⟩ = some (.int .i64 li) ∧ w'.cell? ⟨b, off + (j + 1) * 3 + 2, none⟩ = some (.int .i64 ui) ∧ w'.cell? ⟨b, off + j * 3, none⟩ = some (.int .i64 pj) ∧ w'.cell? ⟨b, off + j * 3 + 1, none⟩ = some (.int .i64 lj) ∧ w'.cell? ⟨b, off + j * 3 + 2, none⟩ = some (.int .i64 uj))) (by kernel_rfl) (by simp [go_sem, World.cell?_alloc_past, *]) (fun hHeld => ?_)
        refine tkH 0 ⟨some 50, _, _, _, _, _⟩ ?_ rfl ?_ (by assumption) ?_
        rotate_left
        · (intro w hSw; (try dsimp only at hSw); go_simp; all_goals with_reducible rfl)
        try simp only [Act.put, sA, sB, sC]
        refine tkH 1 ⟨some 51, _, _, _, _, _⟩ ?_ rfl ?_ (by assumption) ?_
        rotate_left
        · (intro w hSw; (try dsimp only at hSw); go_simp; all_goals with_reducible rfl)
        try simp only [Act.put, sA, sB, sC]
        refine tkH 2 ⟨some 52, _, _, _, _, _⟩ ?_ rfl ?_ (by assumption) ?_
        rotate_left
        · (intro w hSw; (try dsimp only at hSw); go_simp; all_goals with_reducible rfl)
        try simp only [Act.put, sA, sB, sC]
        refine tkH 3 ⟨some 53, _, _, _, _, _⟩ ?_ rfl ?_ (by assumption) ?_
        rotate_left
        · (intro w hSw; (try dsimp only at hSw); go_simp; all_goals with_reducible rfl)
        try simp only [Act.put, sA, sB, sC]
        refine tkH 4 ⟨some 54, _, _, _, _, _⟩ ?_ rfl ?_ (by assumption) ?_
        rotate_left
        · (intro w hSw; (try dsimp only at hSw); go_simp; all_goals with_reducible rfl)
        try simp only [Act.put, sA, sB, sC]
        refine tkH 5 ⟨some 55, _, _, _, _, _⟩ ?_ rfl ?_ (by assumption) ?_
        rotate_left
        · (intro w hSw; (try dsimp only at hSw); go_simp; all_goals with_reducible rfl)
        try simp only [Act.put, sA, sB, sC]
        refine tkH 6 ⟨some 56, _, _, _, _, _⟩ ?_ rfl ?_ (by assumption) ?_
        rotate_left
        · (intro w hSw; (try dsimp only at hSw); go_simp; all_goals with_reducible rfl)
        try simp only [Act.put, sA, sB, sC]
        refine tkH 7 ⟨some 57, _, _, _, _, _⟩ ?_ rfl ?_ (by assumption) ?_
        rotate_left
        · (intro w hSw; (try dsimp only at hSw); go_simp; all_goals with_reducible rfl)
        try simp only [Act.put, sA, sB, sC]
        refine tkH 8 ⟨some 58, _, _, _, _, _⟩ ?_ rfl ?_ (by assumption) ?_
        rotate_left
        · (intro w hSw; (try dsimp only at hSw); go_simp; all_goals with_reducible rfl)
        try simp only [Act.put, sA, sB, sC]
        refine wpAnyH_ready (rs := [9, 10]) (by kernel_rfl) (by simp) ?_
        refine AllReadyH.cons rfl (fun K hK => ?_) (AllReadyH.cons rfl (fun K hK => ?_) (AllReadyH.nil))
        · skip
          go_simp
          go_wp2_with fail
          refine hK.out _ _ (by simp [go_sem, World.cell?_alloc_past, *]) (fun hHeld => ?_)
          clear hK K
          try simp only [Act.put, sA, sB, sC]
          refine wpAnyH_ready (rs := [10]) (by kernel_rfl) (by simp) ?_
          refine AllReadyH.cons rfl (fun K hK => ?_) (AllReadyH.nil)
          go_simp
          go_wp2_with fail
          refine hK.out _ _ (by simp [go_sem, World.cell?_alloc_past, *]) (fun hHeld => ?_)
          clear hK K
          try simp only [Act.put, sA, sB, sC]
          refine wpAnyH_ready (rs := [11]) (by kernel_rfl) (by simp) ?_
          refine AllReadyH.cons rfl (fun K hK => ?_) (AllReadyH.nil)
          go_simp
          go_wp2_with fail
          refine hK.out _ _ (by simp [go_sem, World.cell?_alloc_past, *]) (fun hHeld => ?_)
          clear hK K
          try simp only [Act.put, sA, sB, sC]
          refine wpAnyH_ready (rs := [12]) (by kernel_rfl) (by simp) ?_
          refine AllReadyH.cons rfl (fun K hK => ?_) (AllReadyH.nil)
          go_simp
          go_wp2_with fail
          refine hK.out _ _ (by simp [go_sem, World.cell?_alloc_past, *]) (fun hHeld => ?_)
          clear hK K
          try simp only [Act.put, sA, sB, sC]
          refine wpAnyH_done (by kernel_rfl) ?_ _
          go_wp2_with fail
          go_meet
          refine ⟨wr.heap.size, wr.heap.size + 1, rfl, rfl, by first | omega | (simp; done) | (simp; omega), by first | omega | (simp; done) | (simp; omega), by first | omega | (simp; done) | (simp; omega), by first | omega | (simp; done) | (simp; omega), by first | omega | (simp; done) | (simp; omega), ⟨(by simp [go_sem, World.cell?_alloc_past, *]), (by simp [go_sem, World.cell?_alloc_past, *]), (by simp [go_sem, World.cell?_alloc_past, *]), (by simp [go_sem, World.cell?_alloc_past, *]), (by simp [go_sem, World.cell?_alloc_past, *]), (by simp [go_sem, World.cell?_alloc_past, *])⟩, (by simp [go_sem, World.cell?_alloc_past, *]), (by simp [go_sem, World.cell?_alloc_past, *]), by intro j; simp [go_sem, *], ?_⟩
          (repeat (first | (with_reducible refine Below.drew ?_) | (with_reducible refine below_drewN ?_ _) | (with_reducible refine Below.alloc ?_ (by first | omega | (simp; done) | (simp; omega) | (simp at *; omega)) _) | (with_reducible refine Below.setCell ?_ (by first | omega | (simp; done) | (simp; omega) | (simp at *; omega)) _) | (with_reducible exact Below.refl _ _) | (with_reducible assumption) | (with_reducible refine Below.trans ?_ (Below.mono (by assumption) (by first | omega | (simp; done) | (simp; omega) | (simp at *; omega))))))
        · skip
          go_simp
          go_wp2_with fail
          refine hK.out _ _ (by simp [go_sem, World.cell?_alloc_past, *]) (fun hHeld => ?_)
          clear hK K
          try simp only [Act.put, sA, sB, sC]
          refine wpAnyH_ready (rs := [9]) (by kernel_rfl) (by simp) ?_
          refine AllReadyH.cons rfl (fun K hK => ?_) (AllReadyH.nil)
          go_simp
          go_wp2_with fail
          refine hK.out _ _ (by simp [go_sem, World.cell?_alloc_past, *]) (fun hHeld => ?_)
          clear hK K
          try simp only [Act.put, sA, sB, sC]
          refine wpAnyH_ready (rs := [11]) (by kernel_rfl) (by simp) ?_
          refine AllReadyH.cons rfl (fun K hK => ?_) (AllReadyH.nil)
          go_simp
          go_wp2_with fail
          refine hK.out _ _ (by simp [go_sem, World.cell?_alloc_past, *]) (fun hHeld => ?_)
          clear hK K
          try simp only [Act.put, sA, sB, sC]
          refine wpAnyH_ready (rs := [12]) (by kernel_rfl) (by simp) ?_
          refine AllReadyH.cons rfl (fun K hK => ?_) (AllReadyH.nil)
          go_simp
          go_wp2_with fail
          refine hK.out _ _ (by simp [go_sem, World.cell?_alloc_past, *]) (fun hHeld => ?_)
          clear hK K
          try simp only [Act.put, sA, sB, sC]
          refine wpAnyH_done (by kernel_rfl) ?_ _
          go_wp2_with fail
          go_meet
          refine ⟨wr.heap.size + 1, wr.heap.size, rfl, rfl, by first | omega | (simp; done) | (simp; omega), by first | omega | (simp; done) | (simp; omega), by first | omega | (simp; done) | (simp; omega), by first | omega | (simp; done) | (simp; omega), by first | omega | (simp; done) | (simp; omega), ⟨(by simp [go_sem, World.cell?_alloc_past, *]), (by simp [go_sem, World.cell?_alloc_past, *]), (by simp [go_sem, World.cell?_alloc_past, *]), (by simp [go_sem, World.cell?_alloc_past, *]), (by simp [go_sem, World.cell?_alloc_past, *]), (by simp [go_sem, World.cell?_alloc_past, *])⟩, (by simp [go_sem, World.cell?_alloc_past, *]), (by simp [go_sem, World.cell?_alloc_past, *]), by intro j; simp [go_sem, *], ?_⟩
          (repeat (first | (with_reducible refine Below.drew ?_) | (with_reducible refine below_drewN ?_ _) | (with_reducible refine Below.alloc ?_ (by first | omega | (simp; done) | (simp; omega) | (simp at *; omega)) _) | (with_reducible refine Below.setCell ?_ (by first | omega | (simp; done) | (simp; omega) | (simp at *; omega)) _) | (with_reducible exact Below.refl _ _) | (with_reducible assumption) | (with_reducible refine Below.trans ?_ (Below.mono (by assumption) (by first | omega | (simp; done) | (simp; omega) | (simp at *; omega))))))
      case rest =>
        obtain ⟨m, y, rfl, rfl, lm, ly, gm, gy, lw, ⟨k0, k1, k2, k3, k4, k5⟩, k6, k7, kf, kB⟩ := hcut
        have hmw : m ≠ w.heap.size := by omega
        have hyw : y ≠ w.heap.size := by omega
        clear s0 s1 sf c0 c1 c2 e0 e1 e2
        go_upto_region 8 with (fail)
        refine wp_region_held_drew (S := (fun w' => w'.cell? ⟨m, 0, none⟩ = some (.int .i64 pj) ∧ w'.cell? ⟨y, 0, none⟩ = some (.int .i64 pi))) (by kernel_rfl) (by simp [go_sem, World.cell?_alloc_past, *]) (fun hHeld => ?_)
        refine tkH 0 ⟨some 59, _, _, _, _, _⟩ ?_ rfl ?_ (by assumption) ?_
        rotate_left
        · (intro w hSw; (try dsimp only at hSw); go_simp; all_goals with_reducible rfl)
        try simp only [Act.put, sA, sB, sC]
        refine tkH 1 ⟨some 60, _, _, _, _, _⟩ ?_ rfl ?_ (by assumption) ?_
        rotate_left
        · (intro w hSw; (try dsimp only at hSw); go_simp; all_goals with_reducible rfl)
        try simp only [Act.put, sA, sB, sC]
        refine tkH 2 ⟨some 61, _, _, _, _, _⟩ ?_ rfl ?_ (by assumption) ?_
        rotate_left
        · (intro w hSw; (try dsimp only at hSw); go_simp; all_goals with_reducible rfl)
        try simp only [Act.put, sA, sB, sC]
        refine tkH 3 ⟨some 62, _, _, _, _, _⟩ ?_ rfl ?_ (by assumption) ?_
        rotate_left
        · (intro w hSw; (try dsimp only at hSw); go_simp; all_goals with_reducible rfl)
        try simp only [Act.put, sA, sB, sC]
        refine tkH 4 ⟨some 63, _, _, _, _, _⟩ ?_ rfl ?_ (by assumption) ?_
        rotate_left
        · (intro w hSw; (try dsimp only at hSw); go_simp; all_goals with_reducible rfl)
        try simp only [Act.put, sA, sB, sC]
        refine tkH 5 ⟨some 64, _, _, _, _, _⟩ ?_ rfl ?_ (by assumption) ?_
        rotate_left
        · (intro w hSw; (try dsimp only at hSw); go_simp; all_goals with_reducible rfl)
        try simp only [Act.put, sA, sB, sC]
        refine tkH 6 ⟨some 65, _, _, _, _, _⟩ ?_ rfl ?_ (by assumption) ?_
        rotate_left
        · (intro w hSw; (try dsimp only at hSw); go_simp; all_goals with_reducible rfl)
        try simp only [Act.put, sA, sB, sC]
        refine tkH 7 ⟨some 66, _, _, _, _, _⟩ ?_ rfl ?_ (by assumption) ?_
        rotate_left
        · (intro w hSw; (try dsimp only at hSw); go_simp; all_goals with_reducible rfl)
        try simp only [Act.put, sA, sB, sC]
        refine tkH 8 ⟨some 67, _, _, _, _, _⟩ ?_ rfl ?_ (by assumption) ?_
        rotate_left
        · (intro w hSw; (try dsimp only at hSw); go_simp; all_goals with_reducible rfl)
        try simp only [Act.put, sA, sB, sC]
        refine tkH 9 ⟨some 9, _, _, _, _, _⟩ ?_ rfl ?_ (by assumption) ?_
        rotate_left
        · (intro w hSw; (try dsimp only at hSw); go_simp; all_goals with_reducible rfl)
        try simp only [Act.put, sA, sB, sC]
        refine tkH 10 ⟨some 10, _, _, _, _, _⟩ ?_ rfl ?_ (by assumption) ?_
        rotate_left
        · (intro w hSw; (try dsimp only at hSw); go_simp; all_goals with_reducible rfl)
        try simp only [Act.put, sA, sB, sC]
        refine wpAnyH_done (by kernel_rfl) ?_ _
        go_upto_region 9 with (fail)
        refine wp_region_held_drew (S := (fun w' => w'.cell? ⟨m, 0, none⟩ = some (.int .i64 pj) ∧ w'.cell? ⟨m, 1, none⟩ = some (.int .i64 lj) ∧ w'.cell? ⟨m, 2, none⟩ = some (.int .i64 uj) ∧ w'.cell? ⟨y, 0, none⟩ = some (.int .i64 pi) ∧ w'.cell? ⟨y, 1, none⟩ = some (.int .i64 li) ∧ w'.cell? ⟨y, 2, none⟩ = some (.int .i64 ui))) (by kernel_rfl) (by simp [go_sem, World.cell?_alloc_past, *]) (fun hHeld => ?_)
        refine tkH 0 ⟨some 68, _, _, _, _, _⟩ ?_ rfl ?_ (by assumption) ?_
        rotate_left
        · (intro w hSw; (try dsimp only at hSw); go_simp; all_goals with_reducible rfl)
        try simp only [Act.put, sA, sB, sC]
        refine tkH 1 ⟨some 69, _, _, _, _, _⟩ ?_ rfl ?_ (by assumption) ?_
        rotate_left
        · (intro w hSw; (try dsimp only at hSw); go_simp; all_goals with_reducible rfl)
        try simp only [Act.put, sA, sB, sC]
        refine tkH 2 ⟨some 70, _, _, _, _, _⟩ ?_ rfl ?_ (by assumption) ?_
        rotate_left
        · (intro w hSw; (try dsimp only at hSw); go_simp; all_goals with_reducible rfl)
        try simp only [Act.put, sA, sB, sC]
        refine tkH 3 ⟨some 71, _, _, _, _, _⟩ ?_ rfl ?_ (by assumption) ?_
        rotate_left
        · (intro w hSw; (try dsimp only at hSw); go_simp; all_goals with_reducible rfl)
        try simp only [Act.put, sA, sB, sC]
        refine tkH 4 ⟨some 72, _, _, _, _, _⟩ ?_ rfl ?_ (by assumption) ?_
        rotate_left
        · (intro w hSw; (try dsimp only at hSw); go_simp; all_goals with_reducible rfl)
        try simp only [Act.put, sA, sB, sC]
        refine tkH 5 ⟨some 73, _, _, _, _, _⟩ ?_ rfl ?_ (by assumption) ?_
        rotate_left
        · (intro w hSw; (try dsimp only at hSw); go_simp; all_goals with_reducible rfl)
        try simp only [Act.put, sA, sB, sC]
        refine tkH 6 ⟨some 74, _, _, _, _, _⟩ ?_ rfl ?_ (by assumption) ?_
        rotate_left
        · (intro w hSw; (try dsimp only at hSw); go_simp; all_goals with_reducible rfl)
        try simp only [Act.put, sA, sB, sC]
        refine tkH 7 ⟨some 75, _, _, _, _, _⟩ ?_ rfl ?_ (by assumption) ?_
        rotate_left
        · (intro w hSw; (try dsimp only at hSw); go_simp; all_goals with_reducible rfl)
        try simp only [Act.put, sA, sB, sC]
        refine tkH 8 ⟨some 76, _, _, _, _, _⟩ ?_ rfl ?_ (by assumption) ?_
        rotate_left
        · (intro w hSw; (try dsimp only at hSw); go_simp; all_goals with_reducible rfl)
        try simp only [Act.put, sA, sB, sC]
        refine tkH 9 ⟨some 77, _, _, _, _, _⟩ ?_ rfl ?_ (by assumption) ?_
        rotate_left
        · (intro w hSw; (try dsimp only at hSw); go_simp; all_goals with_reducible rfl)
        try simp only [Act.put, sA, sB, sC]
        refine tkH 10 ⟨some 78, _, _, _, _, _⟩ ?_ rfl ?_ (by assumption) ?_
        rotate_left
        · (intro w hSw; (try dsimp only at hSw); go_simp; all_goals with_reducible rfl)
        try simp only [Act.put, sA, sB, sC]
        refine tkH 11 ⟨some 79, _, _, _, _, _⟩ ?_ rfl ?_ (by assumption) ?_
        rotate_left
        · (intro w hSw; (try dsimp only at hSw); go_simp; all_goals with_reducible rfl)
        try simp only [Act.put, sA, sB, sC]
        refine tkH 12 ⟨some 80, _, _, _, _, _⟩ ?_ rfl ?_ (by assumption) ?_
        rotate_left
        · (intro w hSw; (try dsimp only at hSw); go_simp; all_goals with_reducible rfl)
        try simp only [Act.put, sA, sB, sC]
        refine tkH 13 ⟨some 81, _, _, _, _, _⟩ ?_ rfl ?_ (by assumption) ?_
        rotate_left
        · (intro w hSw; (try dsimp only at hSw); go_simp; all_goals with_reducible rfl)
        try simp only [Act.put, sA, sB, sC]
        refine tkH 15 ⟨some 83, _, _, _, _, _⟩ ?_ rfl ?_ (by assumption) ?_
        rotate_left
        · (intro w hSw; (try dsimp only at hSw); go_simp; all_goals with_reducible rfl)
        try simp only [Act.put, sA, sB, sC]
        refine tkH 16 ⟨some 84, _, _, _, _, _⟩ ?_ rfl ?_ (by assumption) ?_
        rotate_left
        · (intro w hSw; (try dsimp only at hSw); go_simp; all_goals with_reducible rfl)
        try simp only [Act.put, sA, sB, sC]
        refine tkH 17 ⟨some 85, _, _, _, _, _⟩ ?_ rfl ?_ (by assumption) ?_
        rotate_left
        · (intro w hSw; (try dsimp only at hSw); go_simp; all_goals with_reducible rfl)
        try simp only [Act.put, sA, sB, sC]
        refine tkH 18 ⟨some 86, _, _, _, _, _⟩ ?_ rfl ?_ (by assumption) ?_
        rotate_left
        · (intro w hSw; (try dsimp only at hSw); go_simp; all_goals with_reducible rfl)
        try simp only [Act.put, sA, sB, sC]
        refine tkH 19 ⟨some 87, _, _, _, _, _⟩ ?_ rfl ?_ (by assumption) ?_
        rotate_left
        · (intro w hSw; (try dsimp only at hSw); go_simp; all_goals with_reducible rfl)
        try simp only [Act.put, sA, sB, sC]
        refine tkH 20 ⟨some 88, _, _, _, _, _⟩ ?_ rfl ?_ (by assumption) ?_
        rotate_left
        · (intro w hSw; (try dsimp only at hSw); go_simp; all_goals with_reducible rfl)
        try simp only [Act.put, sA, sB, sC]
        refine tkH 21 ⟨some 89, _, _, _, _, _⟩ ?_ rfl ?_ (by assumption) ?_
        rotate_left
        · (intro w hSw; (try dsimp only at hSw); go_simp; all_goals with_reducible rfl)
        try simp only [Act.put, sA, sB, sC]
        refine tkH 22 ⟨some 90, _, _, _, _, _⟩ ?_ rfl ?_ (by assumption) ?_
        rotate_left
        · (intro w hSw; (try dsimp only at hSw); go_simp; all_goals with_reducible rfl)
        try simp only [Act.put, sA, sB, sC]
        refine tkH 23 ⟨some 91, _, _, _, _, _⟩ ?_ rfl ?_ (by assumption) ?_
        rotate_left
        · (intro w hSw; (try dsimp only at hSw); go_simp; all_goals with_reducible rfl)
        try simp only [Act.put, sA, sB, sC]
        refine tkH 24 ⟨some 92, _, _, _, _, _⟩ ?_ rfl ?_ (by assumption) ?_
        rotate_left
        · (intro w hSw; (try dsimp only at hSw); go_simp; all_goals with_reducible rfl)
        try simp only [Act.put, sA, sB, sC]
        refine tkH 25 ⟨some 93, _, _, _, _, _⟩ ?_ rfl ?_ (by assumption) ?_
        rotate_left
        · (intro w hSw; (try dsimp only at hSw); go_simp; all_goals with_reducible rfl)
        try simp only [Act.put, sA, sB, sC]
        refine tkH 26 ⟨some 94, _, _, _, _, _⟩ ?_ rfl ?_ (by assumption) ?_
        rotate_left
        · (intro w hSw; (try dsimp only at hSw); go_simp; all_goals with_reducible rfl)
        try simp only [Act.put, sA, sB, sC]
        refine tkH 27 ⟨some 95, _, _, _, _, _⟩ ?_ rfl ?_ (by assumption) ?_
        rotate_left
        · (intro w hSw; (try dsimp only at hSw); go_simp; all_goals with_reducible rfl)
        try simp only [Act.put, sA, sB, sC]
        refine tkH 28 ⟨some 96, _, _, _, _, _⟩ ?_ rfl ?_ (by assumption) ?_
        rotate_left
        · (intro w hSw; (try dsimp only at hSw); go_simp; all_goals with_reducible rfl)
        try simp only [Act.put, sA, sB, sC]
        refine wpAnyH_ready (rs := [14]) (by kernel_rfl) (by simp) ?_
        refine AllReadyH.cons rfl (fun K hK => ?_) AllReadyH.nil
        go_simp
        refine (baseFloor_q n' d q _ nb1 (by omega) (by omega) (by omega) hq).mono ?_
        rintro e wq ⟨rfl, rfl⟩
        go_wp2_with fail
        refine hK.out _ _ (by simp [go_sem, World.cell?_alloc_past, *]) (fun hHeld => ?_)
        clear hK K
        try simp only [Act.put, sA, sB, sC]
        refine wpAnyH_ready (rs := [29]) (by kernel_rfl) (by simp) ?_
        refine AllReadyH.cons rfl (fun K hK => ?_) AllReadyH.nil
        go_simp
        refine (baseCeil_q m' d r _ mb1 (by omega) (by omega) (by omega) hr).mono ?_
        rintro e wq ⟨rfl, rfl⟩
        go_wp2_with fail
        refine hK.out _ _ (by simp [go_sem, World.cell?_alloc_past, *]) (fun hHeld => ?_)
        clear hK K
        try simp only [Act.put, sA, sB, sC]
        refine tkH 30 ⟨some 98, _, _, _, _, _⟩ ?_ rfl ?_ (by assumption) ?_
        rotate_left
        · (intro w hSw; (try dsimp only at hSw); go_simp; all_goals with_reducible rfl)
        try simp only [Act.put, sA, sB, sC]
        refine wpAnyH_ready (rs := [31]) (by kernel_rfl) (by simp) ?_
        refine AllReadyH.cons rfl (fun K hK => ?_) AllReadyH.nil
        go_simp
        go_wp2_with fail
        refine hK.out _ _ (by simp [go_sem, World.cell?_alloc_past, *]) (fun hHeld => ?_)
        clear hK K
        try simp only [Act.put, sA, sB, sC]
        refine tkH 32 ⟨some 5, _, _, _, _, _⟩ ?_ rfl ?_ (by assumption) ?_
        rotate_left
        · (intro w hSw; (try dsimp only at hSw); go_simp; all_goals with_reducible rfl)
        try simp only [Act.put, sA, sB, sC]
        refine wpAnyH_done (by kernel_rfl) ?_ _
        go_wp2
        refine bodyPost_ret (v := .tuple #[.agg #[.int .i64 q, .int .i64 r], .bool true]) (by simp [results, Try.results49, go_sem, World.cell?_alloc_past, *]) rfl ⟨rfl, ?_⟩
        (repeat (first | (with_reducible refine Below.drew ?_) | (with_reducible refine below_drewN ?_ _) | (with_reducible refine Below.alloc ?_ (by first | omega | (simp; done) | (simp; omega) | (simp at *; omega)) _) | (with_reducible refine Below.setCell ?_ (by first | omega | (simp; done) | (simp; omega) | (simp at *; omega)) _) | (with_reducible exact Below.refl _ _) | (with_reducible assumption) | (with_reducible refine Below.trans ?_ (Below.mono (by assumption) (by first | omega | (simp; done) | (simp; omega) | (simp at *; omega))))))
theorem refFactorAt_any (L : List Fc) (A : Option Addr) (cap : Nat) (x l u : Int) (B : Bool) (w : World) (hc : Hid (ctE L = 0)) (hL : SlRows fcV 3 w A L) (hB : Hid (decide (faE L x = 0) = B)) (h1 : Hid (faL L x = l)) (h2 : Hid (faU L x = u)) :
    Calls Try.prog 49 #[.slice A L.length cap, .int .i64 x] w fun e w' => e = .returned (.tuple #[.agg #[.int .i64 l, .int .i64 u], .bool B]) ∧ Below w.heap.size w w' := by
  obtain ⟨l0, l1, hf⟩ := ctE_ok hc.out
  have hb := hB.out
  have g1 := h1.out
  have g2 := h2.out
  unfold faL at g1
  unfold faU at g2
  rcases hL with rfl | ⟨b, off, rfl, hlt, hL⟩
  · simp at l0
  have he : faE L x = rngE x (fcG L 0).p (fcG L (L.length - 1)).p := by unfold faE; rw [if_pos hc.out]
  rw [fcG_at l0, fcG_at (show L.length - 1 < L.length by omega)] at he
  rcases inB_cases x (L[0]'l0).p (L[L.length - 1]'(by omega)).p with hi | hi
  · rw [rngE_t hi] at he
    rw [he] at hb g1 g2
    rw [if_pos rfl] at g1 g2
    obtain rfl : B = true := by rw [← hb]; rfl
    obtain ⟨i0, i9⟩ := inB_iff.1 hi
    obtain ⟨hl1, hw⟩ := fix_in (x := x) hc.out (by rw [fcG_at l0]; exact i0) (by rw [fcG_at (by omega)]; exact i9)
    obtain ⟨q1, q2, q3, q4⟩ := facE_ok hf (fix x L) hl1
    unfold facL at g1
    unfold facU at g2
    rw [fcG_at hl1] at g1 g2
    rcases hw with hw | ⟨hp, hw1, hw2⟩
    · rw [if_pos hw] at g1 g2
      exact rFA_hit L b off cap L.length x (fix x L) l u w (Lib.hid rfl) l0 l1 hlt hL hl1 (fun j hj hjl => fix_below j hj hjl) (Lib.hid hw) (Lib.hid g1) (Lib.hid g2)
    · obtain ⟨j, hj⟩ : ∃ j, fix x L = j + 1 := ⟨fix x L - 1, by omega⟩
      rw [if_neg (by omega), fcG_at (by omega)] at g1 g2
      unfold midL at g1
      unfold midU at g2
      simp only [hj, Nat.add_sub_cancel] at g1 g2 hw1 hw2 q1 q2
      obtain ⟨r1, r2, r3, r4⟩ := facE_ok hf j (by omega)
      exact rFA_mid L b off cap L.length x j _ _ _ _ _ _ _ _ _ _ _ _ _ _ _ l u w (Lib.hid rfl) l0 l1 hlt hL (by omega) (fun z hz hzl => fix_below z (by omega) hzl) (Lib.hid rfl) (Lib.hid rfl) (Lib.hid rfl) (Lib.hid rfl) (Lib.hid rfl) (Lib.hid rfl) (by omega) (by omega) (by omega) (by omega) (by omega) (by omega) (by omega) (by omega) (by omega) (by omega) (by omega) (by omega) (Lib.hid rfl) (Lib.hid rfl) (Lib.hid (show _ = (L[j + 1]'(by omega)).p - x by omega)) (Lib.hid ⟨rfl, rfl, rfl, rfl⟩) (Lib.hid ⟨rfl, rfl⟩) (Lib.hid g1) (Lib.hid g2)
  · rw [rngE_f hi] at he
    rw [he] at hb g1 g2
    rw [if_neg (by omega)] at g1 g2
    subst g1 g2
    obtain rfl : B = false := by rw [← hb]; rfl
    have hn := inB_not.1 hi
    by_cases h0 : x < (L[0]'l0).p
    · refine rFA_under L b off cap L.length x w (Lib.hid rfl) l0 l1 hlt hL fun j _ hj => ?_
      rcases j with _ | j
      · exact h0
      · have := (facE_ok hf (j + 1) hj).2.2.2 0 (by omega); omega
    · have h9 : (L[L.length - 1]'(by omega)).p < x := by omega
      refine rFA_above L b off cap L.length x w (Lib.hid rfl) l0 l1 hlt hL fun j _ hj => ?_
      by_cases e : j = L.length - 1
      · subst e; exact h9
      · have := (facE_ok hf (L.length - 1) (by omega)).2.2.2 j (by omega); omega
set_option maxHeartbeats 4000000 in
set_option maxRecDepth 100000 in
theorem rReal_order (L : List Fc) (A : Option Addr) (cap : Nat) (n : Nat) (x y v : Int) (w : World) (hn : Hid (n = L.length)) (hc : Hid (ctE L = 0)) (hL : SlRows fcV 3 w A L) (hxy : y < x) : Calls Try.prog 50 #[.slice A n cap, .agg #[.int .i64 x, .int .i64 y], .int .i64 v] w fun e w' => e = .returned (.tuple #[.agg #[.int .i64 0, .int .i64 0], .int .i64 9]) ∧ Below w.heap.size w w' := by
  have HL := Lib.hid hL
  have HFA : Hid (∀ (x l u : Int) (B : Bool) w', SlRows fcV 3 w' A L → Hid (decide (faE L x = 0) = B) → Hid (faL L x = l) → Hid (faU L x = u) → Calls Try.prog 49 #[.slice A n cap, .int .i64 x] w' fun e w'' => e = .returned (.tuple #[.agg #[.int .i64 l, .int .i64 u], .bool B]) ∧ Below w'.heap.size w' w'') := Lib.hid (by rw [hn.out]; exact fun x l u B w' hh hB h1 h2 => refFactorAt_any L A cap x l u B w' hc hh hB h1 h2)
  clear hL hn hc
  go_enter Try.func50, Try.ntmps50
  go_wp2
  refine bodyPost_ret (v := .tuple #[.agg #[.int .i64 0, .int .i64 0], .int .i64 9]) (by simp [results, Try.results50, go_sem, World.cell?_alloc_past, *]) rfl ⟨rfl, ?_⟩
  (repeat (first | (with_reducible refine Below.drew ?_) | (with_reducible refine below_drewN ?_ _) | (with_reducible refine Below.alloc ?_ (by first | omega | (simp; done) | (simp; omega) | (simp at *; omega)) _) | (with_reducible refine Below.setCell ?_ (by first | omega | (simp; done) | (simp; omega) | (simp at *; omega)) _) | (with_reducible exact Below.refl _ _) | (with_reducible assumption) | (with_reducible refine Below.trans ?_ (Below.mono (by assumption) (by first | omega | (simp; done) | (simp; omega) | (simp at *; omega))))))
set_option maxHeartbeats 4000000 in
set_option maxRecDepth 100000 in
theorem rReal_far1 (L : List Fc) (A : Option Addr) (cap : Nat) (n : Nat) (x y v l1 u1 l2 u2 : Int) (w : World) (hn : Hid (n = L.length)) (hc : Hid (ctE L = 0)) (hL : SlRows fcV 3 w A L) (c2 : Bool) (hxy : ¬ y < x) (h1 : Hid (decide (faE L x = 0) = false)) (hl1 : Hid (faL L x = l1)) (hu1 : Hid (faU L x = u1)) (h2 : Hid (decide (faE L y = 0) = c2)) (hl2 : Hid (faL L y = l2)) (hu2 : Hid (faU L y = u2)) : Calls Try.prog 50 #[.slice A n cap, .agg #[.int .i64 x, .int .i64 y], .int .i64 v] w fun e w' => e = .returned (.tuple #[.agg #[.int .i64 0, .int .i64 0], .int .i64 2]) ∧ Below w.heap.size w w' := by
  have HL := Lib.hid hL
  have HFA : Hid (∀ (x l u : Int) (B : Bool) w', SlRows fcV 3 w' A L → Hid (decide (faE L x = 0) = B) → Hid (faL L x = l) → Hid (faU L x = u) → Calls Try.prog 49 #[.slice A n cap, .int .i64 x] w' fun e w'' => e = .returned (.tuple #[.agg #[.int .i64 l, .int .i64 u], .bool B]) ∧ Below w'.heap.size w' w'') := Lib.hid (by rw [hn.out]; exact fun x l u B w' hh hB h1 h2 => refFactorAt_any L A cap x l u B w' hc hh hB h1 h2)
  clear hL hn hc
  go_enter Try.func50, Try.ntmps50
  go_wp2_with fail
  refine (HFA.out x l1 u1 false _ (HL.out.below (((Below.refl w.heap.size w).alloc (Nat.le_refl _) _).alloc (by simp) _)) h1 hl1 hu1).mono ?_
  rintro e xw1 ⟨rfl, hbx1⟩
  have zx1 := hbx1.size
  try simp at zx1
  obtain ⟨x1_0_0, x1_0_1, x1_1_0, x1_1_1⟩ : xw1.cell? ⟨w.heap.size, 0, none⟩ = some (.int .i64 x) ∧ xw1.cell? ⟨w.heap.size, 1, none⟩ = some (.int .i64 y) ∧ xw1.cell? ⟨w.heap.size + 1, 0, none⟩ = some (.int .i64 0) ∧ xw1.cell? ⟨w.heap.size + 1, 1, none⟩ = some (.int .i64 0) := by refine ⟨?_, ?_, ?_, ?_⟩ <;> (rw [(bcell hbx1).1 _ _ (by first | (simp; done) | (simp; omega) | omega)]; simp [go_sem, World.cell?_alloc_past, *])
  have x1f1 : (∀ j, xw1.frozen? ⟨w.heap.size + 1, j, none⟩ = false) := by (intro j; rw [(bcell hbx1).2 _ _ (by first | (simp; done) | (simp; omega) | omega)]; simp [go_sem, *])
  obtain ⟨x1o0, x1n0, x1m0, x1t0_0, x1t0_1, x1o1, x1n1, x1m1, x1t1_0, x1t1_1⟩ : w.heap.size < xw1.heap.size ∧ xw1.heap.size ≠ w.heap.size ∧ w.heap.size ≠ xw1.heap.size ∧ w.heap.size < xw1.heap.size + 1 ∧ w.heap.size < xw1.heap.size + 1 + 1 ∧ w.heap.size + 1 < xw1.heap.size ∧ xw1.heap.size ≠ w.heap.size + 1 ∧ w.heap.size + 1 ≠ xw1.heap.size ∧ w.heap.size + 1 < xw1.heap.size + 1 ∧ w.heap.size + 1 < xw1.heap.size + 1 + 1 := by refine ⟨?_, ?_, ?_, ?_, ?_, ?_, ?_, ?_, ?_, ?_⟩ <;> omega
  have hBx1 : Below w.heap.size w xw1 := (by (repeat (first | (with_reducible refine Below.drew ?_) | (with_reducible refine below_drewN ?_ _) | (with_reducible refine Below.alloc ?_ (by first | omega | (simp; done) | (simp; omega) | (simp at *; omega)) _) | (with_reducible refine Below.setCell ?_ (by first | omega | (simp; done) | (simp; omega) | (simp at *; omega)) _) | (with_reducible exact Below.refl _ _) | (with_reducible assumption) | (with_reducible refine Below.trans ?_ (Below.mono (by assumption) (by first | omega | (simp; done) | (simp; omega) | (simp at *; omega)))))))
  clear hbx1 
  go_wp2_with fail
  have ob1 : w.heap.size < xw1.heap.size := by omega
  have ob2 : w.heap.size + 1 < xw1.heap.size := by omega
  refine (HFA.out y l2 u2 c2 _ (HL.out.below (hBx1.alloc (by omega) _)) h2 hl2 hu2).mono ?_
  rintro e xw2 ⟨rfl, hbx2⟩
  have zx2 := hbx2.size
  try simp at zx2
  obtain ⟨x2_0_0, x2_0_1, x2_1_0, x2_1_1, x2_2_0, x2_2_1⟩ : xw2.cell? ⟨w.heap.size, 0, none⟩ = some (.int .i64 x) ∧ xw2.cell? ⟨w.heap.size, 1, none⟩ = some (.int .i64 y) ∧ xw2.cell? ⟨w.heap.size + 1, 0, none⟩ = some (.int .i64 0) ∧ xw2.cell? ⟨w.heap.size + 1, 1, none⟩ = some (.int .i64 0) ∧ xw2.cell? ⟨xw1.heap.size, 0, none⟩ = some (.int .i64 l1) ∧ xw2.cell? ⟨xw1.heap.size, 1, none⟩ = some (.int .i64 u1) := by refine ⟨?_, ?_, ?_, ?_, ?_, ?_⟩ <;> (rw [(bcell hbx2).1 _ _ (by first | (simp; done) | (simp; omega) | omega)]; simp [go_sem, World.cell?_alloc_past, *])
  have x2f1 : (∀ j, xw2.frozen? ⟨w.heap.size + 1, j, none⟩ = false) := by (intro j; rw [(bcell hbx2).2 _ _ (by first | (simp; done) | (simp; omega) | omega)]; simp [go_sem, *])
  obtain ⟨x2o0, x2n0, x2m0, x2t0_0, x2t0_1, x2o1, x2n1, x2m1, x2t1_0, x2t1_1, x2o2, x2n2, x2m2, x2t2_0, x2t2_1⟩ : w.heap.size < xw2.heap.size ∧ xw2.heap.size ≠ w.heap.size ∧ w.heap.size ≠ xw2.heap.size ∧ w.heap.size < xw2.heap.size + 1 ∧ w.heap.size < xw2.heap.size + 1 + 1 ∧ w.heap.size + 1 < xw2.heap.size ∧ xw2.heap.size ≠ w.heap.size + 1 ∧ w.heap.size + 1 ≠ xw2.heap.size ∧ w.heap.size + 1 < xw2.heap.size + 1 ∧ w.heap.size + 1 < xw2.heap.size + 1 + 1 ∧ xw1.heap.size < xw2.heap.size ∧ xw2.heap.size ≠ xw1.heap.size ∧ xw1.heap.size ≠ xw2.heap.size ∧ xw1.heap.size < xw2.heap.size + 1 ∧ xw1.heap.size < xw2.heap.size + 1 + 1 := by refine ⟨?_, ?_, ?_, ?_, ?_, ?_, ?_, ?_, ?_, ?_, ?_, ?_, ?_, ?_, ?_⟩ <;> omega
  have hBx2 : Below w.heap.size w xw2 := (by (repeat (first | (with_reducible refine Below.drew ?_) | (with_reducible refine below_drewN ?_ _) | (with_reducible refine Below.alloc ?_ (by first | omega | (simp; done) | (simp; omega) | (simp at *; omega)) _) | (with_reducible refine Below.setCell ?_ (by first | omega | (simp; done) | (simp; omega) | (simp at *; omega)) _) | (with_reducible exact Below.refl _ _) | (with_reducible assumption) | (with_reducible refine Below.trans ?_ (Below.mono (by assumption) (by first | omega | (simp; done) | (simp; omega) | (simp at *; omega)))))))
  clear hbx2 x1_0_0 x1_0_1 x1_1_0 x1_1_1 x1f1 x1o0 x1n0 x1m0 x1t0_0 x1t0_1 x1o1 x1n1 x1m1 x1t1_0 x1t1_1 hBx1
  generalize xw1.heap.size = s at *
  go_wp2_with ((go_at_call 33; ((with_reducible refine (baseWithin_any _ _ _ _).mono ?_)); rintro e w' ⟨rfl, rfl⟩))
  refine bodyPost_ret (v := .tuple #[.agg #[.int .i64 0, .int .i64 0], .int .i64 2]) (by simp [results, Try.results50, go_sem, World.cell?_alloc_past, *]) rfl ⟨rfl, ?_⟩
  (repeat (first | (with_reducible refine Below.drew ?_) | (with_reducible refine below_drewN ?_ _) | (with_reducible refine Below.alloc ?_ (by first | omega | (simp; done) | (simp; omega) | (simp at *; omega)) _) | (with_reducible refine Below.setCell ?_ (by first | omega | (simp; done) | (simp; omega) | (simp at *; omega)) _) | (with_reducible exact Below.refl _ _) | (with_reducible assumption) | (with_reducible refine Below.trans ?_ (Below.mono (by assumption) (by first | omega | (simp; done) | (simp; omega) | (simp at *; omega))))))
set_option maxHeartbeats 4000000 in
set_option maxRecDepth 100000 in
theorem rReal_far2 (L : List Fc) (A : Option Addr) (cap : Nat) (n : Nat) (x y v l1 u1 l2 u2 : Int) (w : World) (hn : Hid (n = L.length)) (hc : Hid (ctE L = 0)) (hL : SlRows fcV 3 w A L) (hxy : ¬ y < x) (h1 : Hid (decide (faE L x = 0) = true)) (hl1 : Hid (faL L x = l1)) (hu1 : Hid (faU L x = u1)) (h2 : Hid (decide (faE L y = 0) = false)) (hl2 : Hid (faL L y = l2)) (hu2 : Hid (faU L y = u2)) : Calls Try.prog 50 #[.slice A n cap, .agg #[.int .i64 x, .int .i64 y], .int .i64 v] w fun e w' => e = .returned (.tuple #[.agg #[.int .i64 0, .int .i64 0], .int .i64 2]) ∧ Below w.heap.size w w' := by
  have HL := Lib.hid hL
  have HFA : Hid (∀ (x l u : Int) (B : Bool) w', SlRows fcV 3 w' A L → Hid (decide (faE L x = 0) = B) → Hid (faL L x = l) → Hid (faU L x = u) → Calls Try.prog 49 #[.slice A n cap, .int .i64 x] w' fun e w'' => e = .returned (.tuple #[.agg #[.int .i64 l, .int .i64 u], .bool B]) ∧ Below w'.heap.size w' w'') := Lib.hid (by rw [hn.out]; exact fun x l u B w' hh hB h1 h2 => refFactorAt_any L A cap x l u B w' hc hh hB h1 h2)
  clear hL hn hc
  go_enter Try.func50, Try.ntmps50
  go_wp2_with fail
  refine (HFA.out x l1 u1 true _ (HL.out.below (((Below.refl w.heap.size w).alloc (Nat.le_refl _) _).alloc (by simp) _)) h1 hl1 hu1).mono ?_
  rintro e xw1 ⟨rfl, hbx1⟩
  have zx1 := hbx1.size
  try simp at zx1
  obtain ⟨x1_0_0, x1_0_1, x1_1_0, x1_1_1⟩ : xw1.cell? ⟨w.heap.size, 0, none⟩ = some (.int .i64 x) ∧ xw1.cell? ⟨w.heap.size, 1, none⟩ = some (.int .i64 y) ∧ xw1.cell? ⟨w.heap.size + 1, 0, none⟩ = some (.int .i64 0) ∧ xw1.cell? ⟨w.heap.size + 1, 1, none⟩ = some (.int .i64 0) := by refine ⟨?_, ?_, ?_, ?_⟩ <;> (rw [(bcell hbx1).1 _ _ (by first | (simp; done) | (simp; omega) | omega)]; simp [go_sem, World.cell?_alloc_past, *])
  have x1f1 : (∀ j, xw1.frozen? ⟨w.heap.size + 1, j, none⟩ = false) := by (intro j; rw [(bcell hbx1).2 _ _ (by first | (simp; done) | (simp; omega) | omega)]; simp [go_sem, *])
  obtain ⟨x1o0, x1n0, x1m0, x1t0_0, x1t0_1, x1o1, x1n1, x1m1, x1t1_0, x1t1_1⟩ : w.heap.size < xw1.heap.size ∧ xw1.heap.size ≠ w.heap.size ∧ w.heap.size ≠ xw1.heap.size ∧ w.heap.size < xw1.heap.size + 1 ∧ w.heap.size < xw1.heap.size + 1 + 1 ∧ w.heap.size + 1 < xw1.heap.size ∧ xw1.heap.size ≠ w.heap.size + 1 ∧ w.heap.size + 1 ≠ xw1.heap.size ∧ w.heap.size + 1 < xw1.heap.size + 1 ∧ w.heap.size + 1 < xw1.heap.size + 1 + 1 := by refine ⟨?_, ?_, ?_, ?_, ?_, ?_, ?_, ?_, ?_, ?_⟩ <;> omega
  have hBx1 : Below w.heap.size w xw1 := (by (repeat (first | (with_reducible refine Below.drew ?_) | (with_reducible refine below_drewN ?_ _) | (with_reducible refine Below.alloc ?_ (by first | omega | (simp; done) | (simp; omega) | (simp at *; omega)) _) | (with_reducible refine Below.setCell ?_ (by first | omega | (simp; done) | (simp; omega) | (simp at *; omega)) _) | (with_reducible exact Below.refl _ _) | (with_reducible assumption) | (with_reducible refine Below.trans ?_ (Below.mono (by assumption) (by first | omega | (simp; done) | (simp; omega) | (simp at *; omega)))))))
  clear hbx1 
  go_wp2_with fail
  have ob1 : w.heap.size < xw1.heap.size := by omega
  have ob2 : w.heap.size + 1 < xw1.heap.size := by omega
  refine (HFA.out y l2 u2 false _ (HL.out.below (hBx1.alloc (by omega) _)) h2 hl2 hu2).mono ?_
  rintro e xw2 ⟨rfl, hbx2⟩
  have zx2 := hbx2.size
  try simp at zx2
  obtain ⟨x2_0_0, x2_0_1, x2_1_0, x2_1_1, x2_2_0, x2_2_1⟩ : xw2.cell? ⟨w.heap.size, 0, none⟩ = some (.int .i64 x) ∧ xw2.cell? ⟨w.heap.size, 1, none⟩ = some (.int .i64 y) ∧ xw2.cell? ⟨w.heap.size + 1, 0, none⟩ = some (.int .i64 0) ∧ xw2.cell? ⟨w.heap.size + 1, 1, none⟩ = some (.int .i64 0) ∧ xw2.cell? ⟨xw1.heap.size, 0, none⟩ = some (.int .i64 l1) ∧ xw2.cell? ⟨xw1.heap.size, 1, none⟩ = some (.int .i64 u1) := by refine ⟨?_, ?_, ?_, ?_, ?_, ?_⟩ <;> (rw [(bcell hbx2).1 _ _ (by first | (simp; done) | (simp; omega) | omega)]; simp [go_sem, World.cell?_alloc_past, *])
  have x2f1 : (∀ j, xw2.frozen? ⟨w.heap.size + 1, j, none⟩ = false) := by (intro j; rw [(bcell hbx2).2 _ _ (by first | (simp; done) | (simp; omega) | omega)]; simp [go_sem, *])
  obtain ⟨x2o0, x2n0, x2m0, x2t0_0, x2t0_1, x2o1, x2n1, x2m1, x2t1_0, x2t1_1, x2o2, x2n2, x2m2, x2t2_0, x2t2_1⟩ : w.heap.size < xw2.heap.size ∧ xw2.heap.size ≠ w.heap.size ∧ w.heap.size ≠ xw2.heap.size ∧ w.heap.size < xw2.heap.size + 1 ∧ w.heap.size < xw2.heap.size + 1 + 1 ∧ w.heap.size + 1 < xw2.heap.size ∧ xw2.heap.size ≠ w.heap.size + 1 ∧ w.heap.size + 1 ≠ xw2.heap.size ∧ w.heap.size + 1 < xw2.heap.size + 1 ∧ w.heap.size + 1 < xw2.heap.size + 1 + 1 ∧ xw1.heap.size < xw2.heap.size ∧ xw2.heap.size ≠ xw1.heap.size ∧ xw1.heap.size ≠ xw2.heap.size ∧ xw1.heap.size < xw2.heap.size + 1 ∧ xw1.heap.size < xw2.heap.size + 1 + 1 := by refine ⟨?_, ?_, ?_, ?_, ?_, ?_, ?_, ?_, ?_, ?_, ?_, ?_, ?_, ?_, ?_⟩ <;> omega
  have hBx2 : Below w.heap.size w xw2 := (by (repeat (first | (with_reducible refine Below.drew ?_) | (with_reducible refine below_drewN ?_ _) | (with_reducible refine Below.alloc ?_ (by first | omega | (simp; done) | (simp; omega) | (simp at *; omega)) _) | (with_reducible refine Below.setCell ?_ (by first | omega | (simp; done) | (simp; omega) | (simp at *; omega)) _) | (with_reducible exact Below.refl _ _) | (with_reducible assumption) | (with_reducible refine Below.trans ?_ (Below.mono (by assumption) (by first | omega | (simp; done) | (simp; omega) | (simp at *; omega)))))))
  clear hbx2 x1_0_0 x1_0_1 x1_1_0 x1_1_1 x1f1 x1o0 x1n0 x1m0 x1t0_0 x1t0_1 x1o1 x1n1 x1m1 x1t1_0 x1t1_1 hBx1
  generalize xw1.heap.size = s at *
  go_wp2_with ((go_at_call 33; ((with_reducible refine (baseWithin_any _ _ _ _).mono ?_)); rintro e w' ⟨rfl, rfl⟩))
  refine bodyPost_ret (v := .tuple #[.agg #[.int .i64 0, .int .i64 0], .int .i64 2]) (by simp [results, Try.results50, go_sem, World.cell?_alloc_past, *]) rfl ⟨rfl, ?_⟩
  (repeat (first | (with_reducible refine Below.drew ?_) | (with_reducible refine below_drewN ?_ _) | (with_reducible refine Below.alloc ?_ (by first | omega | (simp; done) | (simp; omega) | (simp at *; omega)) _) | (with_reducible refine Below.setCell ?_ (by first | omega | (simp; done) | (simp; omega) | (simp at *; omega)) _) | (with_reducible exact Below.refl _ _) | (with_reducible assumption) | (with_reducible refine Below.trans ?_ (Below.mono (by assumption) (by first | omega | (simp; done) | (simp; omega) | (simp at *; omega))))))
set_option maxHeartbeats 4000000 in
set_option maxRecDepth 100000 in
theorem rReal_far3 (L : List Fc) (A : Option Addr) (cap : Nat) (n : Nat) (x y v l1 u1 l2 u2 : Int) (w : World) (hn : Hid (n = L.length)) (hc : Hid (ctE L = 0)) (hL : SlRows fcV 3 w A L) (hxy : ¬ y < x) (h1 : Hid (decide (faE L x = 0) = true)) (hl1 : Hid (faL L x = l1)) (hu1 : Hid (faU L x = u1)) (h2 : Hid (decide (faE L y = 0) = true)) (hl2 : Hid (faL L y = l2)) (hu2 : Hid (faU L y = u2)) (hv : Hid (inB v 1 1000000 = false)) : Calls Try.prog 50 #[.slice A n cap, .agg #[.int .i64 x, .int .i64 y], .int .i64 v] w fun e w' => e = .returned (.tuple #[.agg #[.int .i64 0, .int .i64 0], .int .i64 2]) ∧ Below w.heap.size w w' := by
  have HL := Lib.hid hL
  have HFA : Hid (∀ (x l u : Int) (B : Bool) w', SlRows fcV 3 w' A L → Hid (decide (faE L x = 0) = B) → Hid (faL L x = l) → Hid (faU L x = u) → Calls Try.prog 49 #[.slice A n cap, .int .i64 x] w' fun e w'' => e = .returned (.tuple #[.agg #[.int .i64 l, .int .i64 u], .bool B]) ∧ Below w'.heap.size w' w'') := Lib.hid (by rw [hn.out]; exact fun x l u B w' hh hB h1 h2 => refFactorAt_any L A cap x l u B w' hc hh hB h1 h2)
  clear hL hn hc
  have hv' := hv.out
  go_enter Try.func50, Try.ntmps50
  go_wp2_with fail
  refine (HFA.out x l1 u1 true _ (HL.out.below (((Below.refl w.heap.size w).alloc (Nat.le_refl _) _).alloc (by simp) _)) h1 hl1 hu1).mono ?_
  rintro e xw1 ⟨rfl, hbx1⟩
  have zx1 := hbx1.size
  try simp at zx1
  obtain ⟨x1_0_0, x1_0_1, x1_1_0, x1_1_1⟩ : xw1.cell? ⟨w.heap.size, 0, none⟩ = some (.int .i64 x) ∧ xw1.cell? ⟨w.heap.size, 1, none⟩ = some (.int .i64 y) ∧ xw1.cell? ⟨w.heap.size + 1, 0, none⟩ = some (.int .i64 0) ∧ xw1.cell? ⟨w.heap.size + 1, 1, none⟩ = some (.int .i64 0) := by refine ⟨?_, ?_, ?_, ?_⟩ <;> (rw [(bcell hbx1).1 _ _ (by first | (simp; done) | (simp; omega) | omega)]; simp [go_sem, World.cell?_alloc_past, *])
  have x1f1 : (∀ j, xw1.frozen? ⟨w.heap.size + 1, j, none⟩ = false) := by (intro j; rw [(bcell hbx1).2 _ _ (by first | (simp; done) | (simp; omega) | omega)]; simp [go_sem, *])
  obtain ⟨x1o0, x1n0, x1m0, x1t0_0, x1t0_1, x1o1, x1n1, x1m1, x1t1_0, x1t1_1⟩ : w.heap.size < xw1.heap.size ∧ xw1.heap.size ≠ w.heap.size ∧ w.heap.size ≠ xw1.heap.size ∧ w.heap.size < xw1.heap.size + 1 ∧ w.heap.size < xw1.heap.size + 1 + 1 ∧ w.heap.size + 1 < xw1.heap.size ∧ xw1.heap.size ≠ w.heap.size + 1 ∧ w.heap.size + 1 ≠ xw1.heap.size ∧ w.heap.size + 1 < xw1.heap.size + 1 ∧ w.heap.size + 1 < xw1.heap.size + 1 + 1 := by refine ⟨?_, ?_, ?_, ?_, ?_, ?_, ?_, ?_, ?_, ?_⟩ <;> omega
  have hBx1 : Below w.heap.size w xw1 := (by (repeat (first | (with_reducible refine Below.drew ?_) | (with_reducible refine below_drewN ?_ _) | (with_reducible refine Below.alloc ?_ (by first | omega | (simp; done) | (simp; omega) | (simp at *; omega)) _) | (with_reducible refine Below.setCell ?_ (by first | omega | (simp; done) | (simp; omega) | (simp at *; omega)) _) | (with_reducible exact Below.refl _ _) | (with_reducible assumption) | (with_reducible refine Below.trans ?_ (Below.mono (by assumption) (by first | omega | (simp; done) | (simp; omega) | (simp at *; omega)))))))
  clear hbx1 
  go_wp2_with fail
  have ob1 : w.heap.size < xw1.heap.size := by omega
  have ob2 : w.heap.size + 1 < xw1.heap.size := by omega
  refine (HFA.out y l2 u2 true _ (HL.out.below (hBx1.alloc (by omega) _)) h2 hl2 hu2).mono ?_
  rintro e xw2 ⟨rfl, hbx2⟩
  have zx2 := hbx2.size
  try simp at zx2
  obtain ⟨x2_0_0, x2_0_1, x2_1_0, x2_1_1, x2_2_0, x2_2_1⟩ : xw2.cell? ⟨w.heap.size, 0, none⟩ = some (.int .i64 x) ∧ xw2.cell? ⟨w.heap.size, 1, none⟩ = some (.int .i64 y) ∧ xw2.cell? ⟨w.heap.size + 1, 0, none⟩ = some (.int .i64 0) ∧ xw2.cell? ⟨w.heap.size + 1, 1, none⟩ = some (.int .i64 0) ∧ xw2.cell? ⟨xw1.heap.size, 0, none⟩ = some (.int .i64 l1) ∧ xw2.cell? ⟨xw1.heap.size, 1, none⟩ = some (.int .i64 u1) := by refine ⟨?_, ?_, ?_, ?_, ?_, ?_⟩ <;> (rw [(bcell hbx2).1 _ _ (by first | (simp; done) | (simp; omega) | omega)]; simp [go_sem, World.cell?_alloc_past, *])
  have x2f1 : (∀ j, xw2.frozen? ⟨w.heap.size + 1, j, none⟩ = false) := by (intro j; rw [(bcell hbx2).2 _ _ (by first | (simp; done) | (simp; omega) | omega)]; simp [go_sem, *])
  obtain ⟨x2o0, x2n0, x2m0, x2t0_0, x2t0_1, x2o1, x2n1, x2m1, x2t1_0, x2t1_1, x2o2, x2n2, x2m2, x2t2_0, x2t2_1⟩ : w.heap.size < xw2.heap.size ∧ xw2.heap.size ≠ w.heap.size ∧ w.heap.size ≠ xw2.heap.size ∧ w.heap.size < xw2.heap.size + 1 ∧ w.heap.size < xw2.heap.size + 1 + 1 ∧ w.heap.size + 1 < xw2.heap.size ∧ xw2.heap.size ≠ w.heap.size + 1 ∧ w.heap.size + 1 ≠ xw2.heap.size ∧ w.heap.size + 1 < xw2.heap.size + 1 ∧ w.heap.size + 1 < xw2.heap.size + 1 + 1 ∧ xw1.heap.size < xw2.heap.size ∧ xw2.heap.size ≠ xw1.heap.size ∧ xw1.heap.size ≠ xw2.heap.size ∧ xw1.heap.size < xw2.heap.size + 1 ∧ xw1.heap.size < xw2.heap.size + 1 + 1 := by refine ⟨?_, ?_, ?_, ?_, ?_, ?_, ?_, ?_, ?_, ?_, ?_, ?_, ?_, ?_, ?_⟩ <;> omega
  have hBx2 : Below w.heap.size w xw2 := (by (repeat (first | (with_reducible refine Below.drew ?_) | (with_reducible refine below_drewN ?_ _) | (with_reducible refine Below.alloc ?_ (by first | omega | (simp; done) | (simp; omega) | (simp at *; omega)) _) | (with_reducible refine Below.setCell ?_ (by first | omega | (simp; done) | (simp; omega) | (simp at *; omega)) _) | (with_reducible exact Below.refl _ _) | (with_reducible assumption) | (with_reducible refine Below.trans ?_ (Below.mono (by assumption) (by first | omega | (simp; done) | (simp; omega) | (simp at *; omega)))))))
  clear hbx2 x1_0_0 x1_0_1 x1_1_0 x1_1_1 x1f1 x1o0 x1n0 x1m0 x1t0_0 x1t0_1 x1o1 x1n1 x1m1 x1t1_0 x1t1_1 hBx1
  generalize xw1.heap.size = s at *
  go_wp2_with ((go_at_call 33; ((with_reducible refine (baseWithin_any _ _ _ _).mono ?_)); rintro e w' ⟨rfl, rfl⟩))
  refine bodyPost_ret (v := .tuple #[.agg #[.int .i64 0, .int .i64 0], .int .i64 2]) (by simp [results, Try.results50, go_sem, World.cell?_alloc_past, *]) rfl ⟨rfl, ?_⟩
  (repeat (first | (with_reducible refine Below.drew ?_) | (with_reducible refine below_drewN ?_ _) | (with_reducible refine Below.alloc ?_ (by first | omega | (simp; done) | (simp; omega) | (simp at *; omega)) _) | (with_reducible refine Below.setCell ?_ (by first | omega | (simp; done) | (simp; omega) | (simp at *; omega)) _) | (with_reducible exact Below.refl _ _) | (with_reducible assumption) | (with_reducible refine Below.trans ?_ (Below.mono (by assumption) (by first | omega | (simp; done) | (simp; omega) | (simp at *; omega))))))
set_option maxHeartbeats 4000000 in
set_option maxRecDepth 100000 in
theorem rReal_ok (L : List Fc) (A : Option Addr) (cap : Nat) (n : Nat) (x y v l1 u1 l2 u2 P Q q1 r1 q2 r2 q r : Int) (w : World) (hn : Hid (n = L.length)) (hc : Hid (ctE L = 0)) (hL : SlRows fcV 3 w A L) (hxy : ¬ y < x) (h1 : Hid (decide (faE L x = 0) = true)) (hl1 : Hid (faL L x = l1)) (hu1 : Hid (faU L x = u1)) (h2 : Hid (decide (faE L y = 0) = true)) (hl2 : Hid (faL L y = l2)) (hu2 : Hid (faU L y = u2)) (hv : Hid (inB v 1 1000000 = true)) (hP : Hid (x * v = P)) (hQ : Hid (y * v = Q)) (P0 : 0 ≤ P) (P1 : P ≤ 400000000000) (Q0 : 0 ≤ Q) (Q1 : Q ≤ 400000000000) (bl1 : 1 ≤ l1) (bl1' : l1 ≤ 2000) (bu1 : 1 ≤ u1) (bu1' : u1 ≤ 2000) (bl2 : 1 ≤ l2) (bl2' : l2 ≤ 2000) (bu2 : 1 ≤ u2) (bu2' : u2 ≤ 2000) (hq1 : Hid (P / u1 = q1)) (hr1 : Hid (upI P l1 = r1)) (hq2 : Hid (Q / u2 = q2)) (hr2 : Hid (upI Q l2 = r2)) (hq : Hid (min q1 q2 = q)) (hr : Hid (max r1 r2 = r)) : Calls Try.prog 50 #[.slice A n cap, .agg #[.int .i64 x, .int .i64 y], .int .i64 v] w fun e w' => e = .returned (.tuple #[.agg #[.int .i64 q, .int .i64 r], .int .i64 0]) ∧ Below w.heap.size w w' := by
  have HL := Lib.hid hL
  have HFA : Hid (∀ (x l u : Int) (B : Bool) w', SlRows fcV 3 w' A L → Hid (decide (faE L x = 0) = B) → Hid (faL L x = l) → Hid (faU L x = u) → Calls Try.prog 49 #[.slice A n cap, .int .i64 x] w' fun e w'' => e = .returned (.tuple #[.agg #[.int .i64 l, .int .i64 u], .bool B]) ∧ Below w'.heap.size w' w'') := Lib.hid (by rw [hn.out]; exact fun x l u B w' hh hB h1 h2 => refFactorAt_any L A cap x l u B w' hc hh hB h1 h2)
  clear hL hn hc
  have hv' := hv.out
  have wP : IntKind.i64.wrap (x * v) = P := by rw [hP.out]; exact IntWalk.i64_in _ (by omega)
  have wQ : IntKind.i64.wrap (y * v) = Q := by rw [hQ.out]; exact IntWalk.i64_in _ (by omega)
  have hqo := hq.out
  have hro := hr.out
  go_enter Try.func50, Try.ntmps50
  go_wp2_with fail
  refine (HFA.out x l1 u1 true _ (HL.out.below (((Below.refl w.heap.size w).alloc (Nat.le_refl _) _).alloc (by simp) _)) h1 hl1 hu1).mono ?_
  rintro e xw1 ⟨rfl, hbx1⟩
  have zx1 := hbx1.size
  try simp at zx1
  obtain ⟨x1_0_0, x1_0_1, x1_1_0, x1_1_1⟩ : xw1.cell? ⟨w.heap.size, 0, none⟩ = some (.int .i64 x) ∧ xw1.cell? ⟨w.heap.size, 1, none⟩ = some (.int .i64 y) ∧ xw1.cell? ⟨w.heap.size + 1, 0, none⟩ = some (.int .i64 0) ∧ xw1.cell? ⟨w.heap.size + 1, 1, none⟩ = some (.int .i64 0) := by refine ⟨?_, ?_, ?_, ?_⟩ <;> (rw [(bcell hbx1).1 _ _ (by first | (simp; done) | (simp; omega) | omega)]; simp [go_sem, World.cell?_alloc_past, *])
  have x1f1 : (∀ j, xw1.frozen? ⟨w.heap.size + 1, j, none⟩ = false) := by (intro j; rw [(bcell hbx1).2 _ _ (by first | (simp; done) | (simp; omega) | omega)]; simp [go_sem, *])
  obtain ⟨x1o0, x1n0, x1m0, x1t0_0, x1t0_1, x1o1, x1n1, x1m1, x1t1_0, x1t1_1⟩ : w.heap.size < xw1.heap.size ∧ xw1.heap.size ≠ w.heap.size ∧ w.heap.size ≠ xw1.heap.size ∧ w.heap.size < xw1.heap.size + 1 ∧ w.heap.size < xw1.heap.size + 1 + 1 ∧ w.heap.size + 1 < xw1.heap.size ∧ xw1.heap.size ≠ w.heap.size + 1 ∧ w.heap.size + 1 ≠ xw1.heap.size ∧ w.heap.size + 1 < xw1.heap.size + 1 ∧ w.heap.size + 1 < xw1.heap.size + 1 + 1 := by refine ⟨?_, ?_, ?_, ?_, ?_, ?_, ?_, ?_, ?_, ?_⟩ <;> omega
  have hBx1 : Below w.heap.size w xw1 := (by (repeat (first | (with_reducible refine Below.drew ?_) | (with_reducible refine below_drewN ?_ _) | (with_reducible refine Below.alloc ?_ (by first | omega | (simp; done) | (simp; omega) | (simp at *; omega)) _) | (with_reducible refine Below.setCell ?_ (by first | omega | (simp; done) | (simp; omega) | (simp at *; omega)) _) | (with_reducible exact Below.refl _ _) | (with_reducible assumption) | (with_reducible refine Below.trans ?_ (Below.mono (by assumption) (by first | omega | (simp; done) | (simp; omega) | (simp at *; omega)))))))
  clear hbx1 
  go_wp2_with fail
  have ob1 : w.heap.size < xw1.heap.size := by omega
  have ob2 : w.heap.size + 1 < xw1.heap.size := by omega
  refine (HFA.out y l2 u2 true _ (HL.out.below (hBx1.alloc (by omega) _)) h2 hl2 hu2).mono ?_
  rintro e xw2 ⟨rfl, hbx2⟩
  have zx2 := hbx2.size
  try simp at zx2
  obtain ⟨x2_0_0, x2_0_1, x2_1_0, x2_1_1, x2_2_0, x2_2_1⟩ : xw2.cell? ⟨w.heap.size, 0, none⟩ = some (.int .i64 x) ∧ xw2.cell? ⟨w.heap.size, 1, none⟩ = some (.int .i64 y) ∧ xw2.cell? ⟨w.heap.size + 1, 0, none⟩ = some (.int .i64 0) ∧ xw2.cell? ⟨w.heap.size + 1, 1, none⟩ = some (.int .i64 0) ∧ xw2.cell? ⟨xw1.heap.size, 0, none⟩ = some (.int .i64 l1) ∧ xw2.cell? ⟨xw1.heap.size, 1, none⟩ = some (.int .i64 u1) := by refine ⟨?_, ?_, ?_, ?_, ?_, ?_⟩ <;> (rw [(bcell hbx2).1 _ _ (by first | (simp; done) | (simp; omega) | omega)]; simp [go_sem, World.cell?_alloc_past, *])
  have x2f1 : (∀ j, xw2.frozen? ⟨w.heap.size + 1, j, none⟩ = false) := by (intro j; rw [(bcell hbx2).2 _ _ (by first | (simp; done) | (simp; omega) | omega)]; simp [go_sem, *])
  obtain ⟨x2o0, x2n0, x2m0, x2t0_0, x2t0_1, x2o1, x2n1, x2m1, x2t1_0, x2t1_1, x2o2, x2n2, x2m2, x2t2_0, x2t2_1⟩ : w.heap.size < xw2.heap.size ∧ xw2.heap.size ≠ w.heap.size ∧ w.heap.size ≠ xw2.heap.size ∧ w.heap.size < xw2.heap.size + 1 ∧ w.heap.size < xw2.heap.size + 1 + 1 ∧ w.heap.size + 1 < xw2.heap.size ∧ xw2.heap.size ≠ w.heap.size + 1 ∧ w.heap.size + 1 ≠ xw2.heap.size ∧ w.heap.size + 1 < xw2.heap.size + 1 ∧ w.heap.size + 1 < xw2.heap.size + 1 + 1 ∧ xw1.heap.size < xw2.heap.size ∧ xw2.heap.size ≠ xw1.heap.size ∧ xw1.heap.size ≠ xw2.heap.size ∧ xw1.heap.size < xw2.heap.size + 1 ∧ xw1.heap.size < xw2.heap.size + 1 + 1 := by refine ⟨?_, ?_, ?_, ?_, ?_, ?_, ?_, ?_, ?_, ?_, ?_, ?_, ?_, ?_, ?_⟩ <;> omega
  have hBx2 : Below w.heap.size w xw2 := (by (repeat (first | (with_reducible refine Below.drew ?_) | (with_reducible refine below_drewN ?_ _) | (with_reducible refine Below.alloc ?_ (by first | omega | (simp; done) | (simp; omega) | (simp at *; omega)) _) | (with_reducible refine Below.setCell ?_ (by first | omega | (simp; done) | (simp; omega) | (simp at *; omega)) _) | (with_reducible exact Below.refl _ _) | (with_reducible assumption) | (with_reducible refine Below.trans ?_ (Below.mono (by assumption) (by first | omega | (simp; done) | (simp; omega) | (simp at *; omega)))))))
  clear hbx2 x1_0_0 x1_0_1 x1_1_0 x1_1_1 x1f1 x1o0 x1n0 x1m0 x1t0_0 x1t0_1 x1o1 x1n1 x1m1 x1t1_0 x1t1_1 hBx1
  generalize xw1.heap.size = s at *
  by_cases c1 : q2 < q1
  · have c1' : min q1 q2 = q2 := by omega
    by_cases c2 : r1 < r2
    · have c2' : max r1 r2 = r2 := by omega
      rw [c1'] at hqo
      rw [c2'] at hro
      subst hqo hro
      clear hq hr
      go_upto_region 7 with ((go_at_call 33; ((with_reducible refine (baseWithin_any _ _ _ _).mono ?_)); rintro e w' ⟨rfl, rfl⟩))
      refine wp_region_held_drew (S := (fun w' => w'.cell? ⟨w.heap.size, 0, none⟩ = some (.int .i64 x) ∧ w'.cell? ⟨w.heap.size, 1, none⟩ = some (.int .i64 y))) (by kernel_rfl) (by simp [go_sem, World.cell?_alloc_past, *]) (fun hHeld => ?_)
      refine tkH 0 ⟨some 46, _, _, _, _, _⟩ ?_ rfl ?_ (by assumption) ?_
      rotate_left
      · (intro w hSw; (try dsimp only at hSw); go_simp; all_goals with_reducible rfl)
      try simp only [Act.put, sA, sB, sC]
      refine tkH 1 ⟨some 47, _, _, _, _, _⟩ ?_ rfl ?_ (by assumption) ?_
      rotate_left
      · (intro w hSw; (try dsimp only at hSw); go_simp; all_goals with_reducible rfl)
      try simp only [Act.put, sA, sB, sC]
      refine tkH 2 ⟨some 48, _, _, _, _, _⟩ ?_ rfl ?_ (by assumption) ?_
      rotate_left
      · (intro w hSw; (try dsimp only at hSw); go_simp; all_goals with_reducible rfl)
      try simp only [Act.put, sA, sB, sC]
      refine tkH 3 ⟨some 49, _, _, _, _, _⟩ ?_ rfl ?_ (by assumption) ?_
      rotate_left
      · (intro w hSw; (try dsimp only at hSw); go_simp; all_goals with_reducible rfl)
      try simp only [Act.put, sA, sB, sC]
      refine tkH 4 ⟨some 50, _, _, _, _, _⟩ ?_ rfl ?_ (by assumption) ?_
      rotate_left
      · (intro w hSw; (try dsimp only at hSw); go_simp; all_goals with_reducible rfl)
      try simp only [Act.put, sA, sB, sC]
      refine tkH 5 ⟨some 51, _, _, _, _, _⟩ ?_ rfl ?_ (by assumption) ?_
      rotate_left
      · (intro w hSw; (try dsimp only at hSw); go_simp; all_goals with_reducible rfl)
      try simp only [Act.put, sA, sB, sC]
      refine tkH 6 ⟨some 52, _, _, _, _, _⟩ ?_ rfl ?_ (by assumption) ?_
      rotate_left
      · (intro w hSw; (try dsimp only at hSw); go_simp; all_goals with_reducible rfl)
      try simp only [Act.put, sA, sB, sC]
      refine tkH 7 ⟨some 53, _, _, _, _, _⟩ ?_ rfl ?_ (by assumption) ?_
      rotate_left
      · (intro w hSw; (try dsimp only at hSw); go_simp; all_goals with_reducible rfl)
      try simp only [Act.put, sA, sB, sC]
      refine tkH 8 ⟨some 12, _, _, _, _, _⟩ ?_ rfl ?_ (by assumption) ?_
      rotate_left
      · (intro w hSw; (try dsimp only at hSw); go_simp; all_goals with_reducible rfl)
      try simp only [Act.put, sA, sB, sC]
      refine tkH 9 ⟨some 13, _, _, _, _, _⟩ ?_ rfl ?_ (by assumption) ?_
      rotate_left
      · (intro w hSw; (try dsimp only at hSw); go_simp; all_goals with_reducible rfl)
      try simp only [Act.put, sA, sB, sC]
      refine wpAnyH_done (by kernel_rfl) ?_ _
      go_upto_region 8 with (fail)
      refine wp_region_held_drew (S := (fun w' => w'.cell? ⟨s, 0, none⟩ = some (.int .i64 l1) ∧ w'.cell? ⟨s, 1, none⟩ = some (.int .i64 u1) ∧ w'.cell? ⟨xw2.heap.size, 0, none⟩ = some (.int .i64 l2) ∧ w'.cell? ⟨xw2.heap.size, 1, none⟩ = some (.int .i64 u2))) (by kernel_rfl) (by simp [go_sem, World.cell?_alloc_past, *]) (fun hHeld => ?_)
      refine tkH 0 ⟨some 54, _, _, _, _, _⟩ ?_ rfl ?_ (by assumption) ?_
      rotate_left
      · (intro w hSw; (try dsimp only at hSw); go_simp; all_goals with_reducible rfl)
      try simp only [Act.put, sA, sB, sC]
      refine tkH 1 ⟨some 55, _, _, _, _, _⟩ ?_ rfl ?_ (by assumption) ?_
      rotate_left
      · (intro w hSw; (try dsimp only at hSw); go_simp; all_goals with_reducible rfl)
      try simp only [Act.put, sA, sB, sC]
      refine tkH 2 ⟨some 56, _, _, _, _, _⟩ ?_ rfl ?_ (by assumption) ?_
      rotate_left
      · (intro w hSw; (try dsimp only at hSw); go_simp; all_goals with_reducible rfl)
      try simp only [Act.put, sA, sB, sC]
      refine tkH 4 ⟨some 58, _, _, _, _, _⟩ ?_ rfl ?_ (by assumption) ?_
      rotate_left
      · (intro w hSw; (try dsimp only at hSw); go_simp; all_goals with_reducible rfl)
      try simp only [Act.put, sA, sB, sC]
      refine tkH 5 ⟨some 59, _, _, _, _, _⟩ ?_ rfl ?_ (by assumption) ?_
      rotate_left
      · (intro w hSw; (try dsimp only at hSw); go_simp; all_goals with_reducible rfl)
      try simp only [Act.put, sA, sB, sC]
      refine tkH 6 ⟨some 60, _, _, _, _, _⟩ ?_ rfl ?_ (by assumption) ?_
      rotate_left
      · (intro w hSw; (try dsimp only at hSw); go_simp; all_goals with_reducible rfl)
      try simp only [Act.put, sA, sB, sC]
      refine tkH 9 ⟨some 63, _, _, _, _, _⟩ ?_ rfl ?_ (by assumption) ?_
      rotate_left
      · (intro w hSw; (try dsimp only at hSw); go_simp; all_goals with_reducible rfl)
      try simp only [Act.put, sA, sB, sC]
      refine tkH 10 ⟨some 64, _, _, _, _, _⟩ ?_ rfl ?_ (by assumption) ?_
      rotate_left
      · (intro w hSw; (try dsimp only at hSw); go_simp; all_goals with_reducible rfl)
      try simp only [Act.put, sA, sB, sC]
      refine tkH 11 ⟨some 65, _, _, _, _, _⟩ ?_ rfl ?_ (by assumption) ?_
      rotate_left
      · (intro w hSw; (try dsimp only at hSw); go_simp; all_goals with_reducible rfl)
      try simp only [Act.put, sA, sB, sC]
      refine tkH 13 ⟨some 67, _, _, _, _, _⟩ ?_ rfl ?_ (by assumption) ?_
      rotate_left
      · (intro w hSw; (try dsimp only at hSw); go_simp; all_goals with_reducible rfl)
      try simp only [Act.put, sA, sB, sC]
      refine tkH 14 ⟨some 68, _, _, _, _, _⟩ ?_ rfl ?_ (by assumption) ?_
      rotate_left
      · (intro w hSw; (try dsimp only at hSw); go_simp; all_goals with_reducible rfl)
      try simp only [Act.put, sA, sB, sC]
      refine tkH 15 ⟨some 69, _, _, _, _, _⟩ ?_ rfl ?_ (by assumption) ?_
      rotate_left
      · (intro w hSw; (try dsimp only at hSw); go_simp; all_goals with_reducible rfl)
      try simp only [Act.put, sA, sB, sC]
      refine wpAnyH_ready (rs := [3]) (by kernel_rfl) (by simp) ?_
      refine AllReadyH.cons rfl (fun K hK => ?_) AllReadyH.nil
      go_simp
      refine (baseFloor_q P u1 q1 _ P0 (by omega) (by omega) (by omega) hq1).mono ?_
      rintro e wq ⟨rfl, rfl⟩
      go_wp2_with fail
      refine hK.out _ _ (by simp [go_sem, World.cell?_alloc_past, *]) (fun hHeld => ?_)
      clear hK K
      try simp only [Act.put, sA, sB, sC]
      refine wpAnyH_ready (rs := [7]) (by kernel_rfl) (by simp) ?_
      refine AllReadyH.cons rfl (fun K hK => ?_) AllReadyH.nil
      go_simp
      refine (baseFloor_q Q u2 q2 _ Q0 (by omega) (by omega) (by omega) hq2).mono ?_
      rintro e wq ⟨rfl, rfl⟩
      go_wp2_with fail
      refine hK.out _ _ (by simp [go_sem, World.cell?_alloc_past, *]) (fun hHeld => ?_)
      clear hK K
      try simp only [Act.put, sA, sB, sC]
      refine tkH 8 ⟨some 62, _, _, _, _, _⟩ ?_ rfl ?_ (by assumption) ?_
      rotate_left
      · (intro w hSw; (try dsimp only at hSw); go_simp; all_goals with_reducible rfl)
      try simp only [Act.put, sA, sB, sC]
      refine wpAnyH_ready (rs := [12]) (by kernel_rfl) (by simp) ?_
      refine AllReadyH.cons rfl (fun K hK => ?_) AllReadyH.nil
      go_simp
      refine (baseCeil_q P l1 r1 _ P0 (by omega) (by omega) (by omega) hr1).mono ?_
      rintro e wq ⟨rfl, rfl⟩
      go_wp2_with fail
      refine hK.out _ _ (by simp [go_sem, World.cell?_alloc_past, *]) (fun hHeld => ?_)
      clear hK K
      try simp only [Act.put, sA, sB, sC]
      refine wpAnyH_ready (rs := [16]) (by kernel_rfl) (by simp) ?_
      refine AllReadyH.cons rfl (fun K hK => ?_) AllReadyH.nil
      go_simp
      refine (baseCeil_q Q l2 r2 _ Q0 (by omega) (by omega) (by omega) hr2).mono ?_
      rintro e wq ⟨rfl, rfl⟩
      go_wp2_with fail
      refine hK.out _ _ (by simp [go_sem, World.cell?_alloc_past, *]) (fun hHeld => ?_)
      clear hK K
      try simp only [Act.put, sA, sB, sC]
      refine tkH 17 ⟨some 71, _, _, _, _, _⟩ ?_ rfl ?_ (by assumption) ?_
      rotate_left
      · (intro w hSw; (try dsimp only at hSw); go_simp; all_goals with_reducible rfl)
      try simp only [Act.put, sA, sB, sC]
      refine tkH 18 ⟨some 72, _, _, _, _, _⟩ ?_ rfl ?_ (by assumption) ?_
      rotate_left
      · (intro w hSw; (try dsimp only at hSw); go_simp; all_goals with_reducible rfl)
      try simp only [Act.put, sA, sB, sC]
      refine wpAnyH_ready (rs := [19]) (by kernel_rfl) (by simp) ?_
      refine AllReadyH.cons rfl (fun K hK => ?_) AllReadyH.nil
      go_simp
      go_wp2_with fail
      refine hK.out _ _ (by simp [go_sem, World.cell?_alloc_past, *]) (fun hHeld => ?_)
      clear hK K
      try simp only [Act.put, sA, sB, sC]
      refine tkH 20 ⟨some 7, _, _, _, _, _⟩ ?_ rfl ?_ (by assumption) ?_
      rotate_left
      · (intro w hSw; (try dsimp only at hSw); go_simp; all_goals with_reducible rfl)
      try simp only [Act.put, sA, sB, sC]
      refine wpAnyH_done (by kernel_rfl) ?_ _
      go_wp2
      refine bodyPost_ret (v := .tuple #[.agg #[.int .i64 q2, .int .i64 r2], .int .i64 0]) (by simp [results, Try.results50, go_sem, World.cell?_alloc_past, *]) rfl ⟨rfl, ?_⟩
      (repeat (first | (with_reducible refine Below.drew ?_) | (with_reducible refine below_drewN ?_ _) | (with_reducible refine Below.alloc ?_ (by first | omega | (simp; done) | (simp; omega) | (simp at *; omega)) _) | (with_reducible refine Below.setCell ?_ (by first | omega | (simp; done) | (simp; omega) | (simp at *; omega)) _) | (with_reducible exact Below.refl _ _) | (with_reducible assumption) | (with_reducible refine Below.trans ?_ (Below.mono (by assumption) (by first | omega | (simp; done) | (simp; omega) | (simp at *; omega))))))
    · have c2' : max r1 r2 = r1 := by omega
      rw [c1'] at hqo
      rw [c2'] at hro
      subst hqo hro
      clear hq hr
      go_upto_region 7 with ((go_at_call 33; ((with_reducible refine (baseWithin_any _ _ _ _).mono ?_)); rintro e w' ⟨rfl, rfl⟩))
      refine wp_region_held_drew (S := (fun w' => w'.cell? ⟨w.heap.size, 0, none⟩ = some (.int .i64 x) ∧ w'.cell? ⟨w.heap.size, 1, none⟩ = some (.int .i64 y))) (by kernel_rfl) (by simp [go_sem, World.cell?_alloc_past, *]) (fun hHeld => ?_)
      refine tkH 0 ⟨some 46, _, _, _, _, _⟩ ?_ rfl ?_ (by assumption) ?_
      rotate_left
      · (intro w hSw; (try dsimp only at hSw); go_simp; all_goals with_reducible rfl)
      try simp only [Act.put, sA, sB, sC]
      refine tkH 1 ⟨some 47, _, _, _, _, _⟩ ?_ rfl ?_ (by assumption) ?_
      rotate_left
      · (intro w hSw; (try dsimp only at hSw); go_simp; all_goals with_reducible rfl)
      try simp only [Act.put, sA, sB, sC]
      refine tkH 2 ⟨some 48, _, _, _, _, _⟩ ?_ rfl ?_ (by assumption) ?_
      rotate_left
      · (intro w hSw; (try dsimp only at hSw); go_simp; all_goals with_reducible rfl)
      try simp only [Act.put, sA, sB, sC]
      refine tkH 3 ⟨some 49, _, _, _, _, _⟩ ?_ rfl ?_ (by assumption) ?_
      rotate_left
      · (intro w hSw; (try dsimp only at hSw); go_simp; all_goals with_reducible rfl)
      try simp only [Act.put, sA, sB, sC]
      refine tkH 4 ⟨some 50, _, _, _, _, _⟩ ?_ rfl ?_ (by assumption) ?_
      rotate_left
      · (intro w hSw; (try dsimp only at hSw); go_simp; all_goals with_reducible rfl)
      try simp only [Act.put, sA, sB, sC]
      refine tkH 5 ⟨some 51, _, _, _, _, _⟩ ?_ rfl ?_ (by assumption) ?_
      rotate_left
      · (intro w hSw; (try dsimp only at hSw); go_simp; all_goals with_reducible rfl)
      try simp only [Act.put, sA, sB, sC]
      refine tkH 6 ⟨some 52, _, _, _, _, _⟩ ?_ rfl ?_ (by assumption) ?_
      rotate_left
      · (intro w hSw; (try dsimp only at hSw); go_simp; all_goals with_reducible rfl)
      try simp only [Act.put, sA, sB, sC]
      refine tkH 7 ⟨some 53, _, _, _, _, _⟩ ?_ rfl ?_ (by assumption) ?_
      rotate_left
      · (intro w hSw; (try dsimp only at hSw); go_simp; all_goals with_reducible rfl)
      try simp only [Act.put, sA, sB, sC]
      refine tkH 8 ⟨some 12, _, _, _, _, _⟩ ?_ rfl ?_ (by assumption) ?_
      rotate_left
      · (intro w hSw; (try dsimp only at hSw); go_simp; all_goals with_reducible rfl)
      try simp only [Act.put, sA, sB, sC]
      refine tkH 9 ⟨some 13, _, _, _, _, _⟩ ?_ rfl ?_ (by assumption) ?_
      rotate_left
      · (intro w hSw; (try dsimp only at hSw); go_simp; all_goals with_reducible rfl)
      try simp only [Act.put, sA, sB, sC]
      refine wpAnyH_done (by kernel_rfl) ?_ _
      go_upto_region 8 with (fail)
      refine wp_region_held_drew (S := (fun w' => w'.cell? ⟨s, 0, none⟩ = some (.int .i64 l1) ∧ w'.cell? ⟨s, 1, none⟩ = some (.int .i64 u1) ∧ w'.cell? ⟨xw2.heap.size, 0, none⟩ = some (.int .i64 l2) ∧ w'.cell? ⟨xw2.heap.size, 1, none⟩ = some (.int .i64 u2))) (by kernel_rfl) (by simp [go_sem, World.cell?_alloc_past, *]) (fun hHeld => ?_)
      refine tkH 0 ⟨some 54, _, _, _, _, _⟩ ?_ rfl ?_ (by assumption) ?_
      rotate_left
      · (intro w hSw; (try dsimp only at hSw); go_simp; all_goals with_reducible rfl)
      try simp only [Act.put, sA, sB, sC]
      refine tkH 1 ⟨some 55, _, _, _, _, _⟩ ?_ rfl ?_ (by assumption) ?_
      rotate_left
      · (intro w hSw; (try dsimp only at hSw); go_simp; all_goals with_reducible rfl)
      try simp only [Act.put, sA, sB, sC]
      refine tkH 2 ⟨some 56, _, _, _, _, _⟩ ?_ rfl ?_ (by assumption) ?_
      rotate_left
      · (intro w hSw; (try dsimp only at hSw); go_simp; all_goals with_reducible rfl)
      try simp only [Act.put, sA, sB, sC]
      refine tkH 4 ⟨some 58, _, _, _, _, _⟩ ?_ rfl ?_ (by assumption) ?_
      rotate_left
      · (intro w hSw; (try dsimp only at hSw); go_simp; all_goals with_reducible rfl)
      try simp only [Act.put, sA, sB, sC]
      refine tkH 5 ⟨some 59, _, _, _, _, _⟩ ?_ rfl ?_ (by assumption) ?_
      rotate_left
      · (intro w hSw; (try dsimp only at hSw); go_simp; all_goals with_reducible rfl)
      try simp only [Act.put, sA, sB, sC]
      refine tkH 6 ⟨some 60, _, _, _, _, _⟩ ?_ rfl ?_ (by assumption) ?_
      rotate_left
      · (intro w hSw; (try dsimp only at hSw); go_simp; all_goals with_reducible rfl)
      try simp only [Act.put, sA, sB, sC]
      refine tkH 9 ⟨some 63, _, _, _, _, _⟩ ?_ rfl ?_ (by assumption) ?_
      rotate_left
      · (intro w hSw; (try dsimp only at hSw); go_simp; all_goals with_reducible rfl)
      try simp only [Act.put, sA, sB, sC]
      refine tkH 10 ⟨some 64, _, _, _, _, _⟩ ?_ rfl ?_ (by assumption) ?_
      rotate_left
      · (intro w hSw; (try dsimp only at hSw); go_simp; all_goals with_reducible rfl)
      try simp only [Act.put, sA, sB, sC]
      refine tkH 11 ⟨some 65, _, _, _, _, _⟩ ?_ rfl ?_ (by assumption) ?_
      rotate_left
      · (intro w hSw; (try dsimp only at hSw); go_simp; all_goals with_reducible rfl)
      try simp only [Act.put, sA, sB, sC]
      refine tkH 13 ⟨some 67, _, _, _, _, _⟩ ?_ rfl ?_ (by assumption) ?_
      rotate_left
      · (intro w hSw; (try dsimp only at hSw); go_simp; all_goals with_reducible rfl)
      try simp only [Act.put, sA, sB, sC]
      refine tkH 14 ⟨some 68, _, _, _, _, _⟩ ?_ rfl ?_ (by assumption) ?_
      rotate_left
      · (intro w hSw; (try dsimp only at hSw); go_simp; all_goals with_reducible rfl)
      try simp only [Act.put, sA, sB, sC]
      refine tkH 15 ⟨some 69, _, _, _, _, _⟩ ?_ rfl ?_ (by assumption) ?_
      rotate_left
      · (intro w hSw; (try dsimp only at hSw); go_simp; all_goals with_reducible rfl)
      try simp only [Act.put, sA, sB, sC]
      refine wpAnyH_ready (rs := [3]) (by kernel_rfl) (by simp) ?_
      refine AllReadyH.cons rfl (fun K hK => ?_) AllReadyH.nil
      go_simp
      refine (baseFloor_q P u1 q1 _ P0 (by omega) (by omega) (by omega) hq1).mono ?_
      rintro e wq ⟨rfl, rfl⟩
      go_wp2_with fail
      refine hK.out _ _ (by simp [go_sem, World.cell?_alloc_past, *]) (fun hHeld => ?_)
      clear hK K
      try simp only [Act.put, sA, sB, sC]
      refine wpAnyH_ready (rs := [7]) (by kernel_rfl) (by simp) ?_
      refine AllReadyH.cons rfl (fun K hK => ?_) AllReadyH.nil
      go_simp
      refine (baseFloor_q Q u2 q2 _ Q0 (by omega) (by omega) (by omega) hq2).mono ?_
      rintro e wq ⟨rfl, rfl⟩
      go_wp2_with fail
      refine hK.out _ _ (by simp [go_sem, World.cell?_alloc_past, *]) (fun hHeld => ?_)
      clear hK K
      try simp only [Act.put, sA, sB, sC]
      refine tkH 8 ⟨some 62, _, _, _, _, _⟩ ?_ rfl ?_ (by assumption) ?_
      rotate_left
      · (intro w hSw; (try dsimp only at hSw); go_simp; all_goals with_reducible rfl)
      try simp only [Act.put, sA, sB, sC]
      refine wpAnyH_ready (rs := [12]) (by kernel_rfl) (by simp) ?_
      refine AllReadyH.cons rfl (fun K hK => ?_) AllReadyH.nil
      go_simp
      refine (baseCeil_q P l1 r1 _ P0 (by omega) (by omega) (by omega) hr1).mono ?_
      rintro e wq ⟨rfl, rfl⟩
      go_wp2_with fail
      refine hK.out _ _ (by simp [go_sem, World.cell?_alloc_past, *]) (fun hHeld => ?_)
      clear hK K
      try simp only [Act.put, sA, sB, sC]
      refine wpAnyH_ready (rs := [16]) (by kernel_rfl) (by simp) ?_
      refine AllReadyH.cons rfl (fun K hK => ?_) AllReadyH.nil
      go_simp
      refine (baseCeil_q Q l2 r2 _ Q0 (by omega) (by omega) (by omega) hr2).mono ?_
      rintro e wq ⟨rfl, rfl⟩
      go_wp2_with fail
      refine hK.out _ _ (by simp [go_sem, World.cell?_alloc_past, *]) (fun hHeld => ?_)
      clear hK K
      try simp only [Act.put, sA, sB, sC]
      refine tkH 17 ⟨some 71, _, _, _, _, _⟩ ?_ rfl ?_ (by assumption) ?_
      rotate_left
      · (intro w hSw; (try dsimp only at hSw); go_simp; all_goals with_reducible rfl)
      try simp only [Act.put, sA, sB, sC]
      refine tkH 18 ⟨some 72, _, _, _, _, _⟩ ?_ rfl ?_ (by assumption) ?_
      rotate_left
      · (intro w hSw; (try dsimp only at hSw); go_simp; all_goals with_reducible rfl)
      try simp only [Act.put, sA, sB, sC]
      refine wpAnyH_ready (rs := [19]) (by kernel_rfl) (by simp) ?_
      refine AllReadyH.cons rfl (fun K hK => ?_) AllReadyH.nil
      go_simp
      go_wp2_with fail
      refine hK.out _ _ (by simp [go_sem, World.cell?_alloc_past, *]) (fun hHeld => ?_)
      clear hK K
      try simp only [Act.put, sA, sB, sC]
      refine tkH 20 ⟨some 7, _, _, _, _, _⟩ ?_ rfl ?_ (by assumption) ?_
      rotate_left
      · (intro w hSw; (try dsimp only at hSw); go_simp; all_goals with_reducible rfl)
      try simp only [Act.put, sA, sB, sC]
      refine wpAnyH_done (by kernel_rfl) ?_ _
      go_wp2
      refine bodyPost_ret (v := .tuple #[.agg #[.int .i64 q2, .int .i64 r1], .int .i64 0]) (by simp [results, Try.results50, go_sem, World.cell?_alloc_past, *]) rfl ⟨rfl, ?_⟩
      (repeat (first | (with_reducible refine Below.drew ?_) | (with_reducible refine below_drewN ?_ _) | (with_reducible refine Below.alloc ?_ (by first | omega | (simp; done) | (simp; omega) | (simp at *; omega)) _) | (with_reducible refine Below.setCell ?_ (by first | omega | (simp; done) | (simp; omega) | (simp at *; omega)) _) | (with_reducible exact Below.refl _ _) | (with_reducible assumption) | (with_reducible refine Below.trans ?_ (Below.mono (by assumption) (by first | omega | (simp; done) | (simp; omega) | (simp at *; omega))))))
  · have c1' : min q1 q2 = q1 := by omega
    by_cases c2 : r1 < r2
    · have c2' : max r1 r2 = r2 := by omega
      rw [c1'] at hqo
      rw [c2'] at hro
      subst hqo hro
      clear hq hr
      go_upto_region 7 with ((go_at_call 33; ((with_reducible refine (baseWithin_any _ _ _ _).mono ?_)); rintro e w' ⟨rfl, rfl⟩))
      refine wp_region_held_drew (S := (fun w' => w'.cell? ⟨w.heap.size, 0, none⟩ = some (.int .i64 x) ∧ w'.cell? ⟨w.heap.size, 1, none⟩ = some (.int .i64 y))) (by kernel_rfl) (by simp [go_sem, World.cell?_alloc_past, *]) (fun hHeld => ?_)
      refine tkH 0 ⟨some 46, _, _, _, _, _⟩ ?_ rfl ?_ (by assumption) ?_
      rotate_left
      · (intro w hSw; (try dsimp only at hSw); go_simp; all_goals with_reducible rfl)
      try simp only [Act.put, sA, sB, sC]
      refine tkH 1 ⟨some 47, _, _, _, _, _⟩ ?_ rfl ?_ (by assumption) ?_
      rotate_left
      · (intro w hSw; (try dsimp only at hSw); go_simp; all_goals with_reducible rfl)
      try simp only [Act.put, sA, sB, sC]
      refine tkH 2 ⟨some 48, _, _, _, _, _⟩ ?_ rfl ?_ (by assumption) ?_
      rotate_left
      · (intro w hSw; (try dsimp only at hSw); go_simp; all_goals with_reducible rfl)
      try simp only [Act.put, sA, sB, sC]
      refine tkH 3 ⟨some 49, _, _, _, _, _⟩ ?_ rfl ?_ (by assumption) ?_
      rotate_left
      · (intro w hSw; (try dsimp only at hSw); go_simp; all_goals with_reducible rfl)
      try simp only [Act.put, sA, sB, sC]
      refine tkH 4 ⟨some 50, _, _, _, _, _⟩ ?_ rfl ?_ (by assumption) ?_
      rotate_left
      · (intro w hSw; (try dsimp only at hSw); go_simp; all_goals with_reducible rfl)
      try simp only [Act.put, sA, sB, sC]
      refine tkH 5 ⟨some 51, _, _, _, _, _⟩ ?_ rfl ?_ (by assumption) ?_
      rotate_left
      · (intro w hSw; (try dsimp only at hSw); go_simp; all_goals with_reducible rfl)
      try simp only [Act.put, sA, sB, sC]
      refine tkH 6 ⟨some 52, _, _, _, _, _⟩ ?_ rfl ?_ (by assumption) ?_
      rotate_left
      · (intro w hSw; (try dsimp only at hSw); go_simp; all_goals with_reducible rfl)
      try simp only [Act.put, sA, sB, sC]
      refine tkH 7 ⟨some 53, _, _, _, _, _⟩ ?_ rfl ?_ (by assumption) ?_
      rotate_left
      · (intro w hSw; (try dsimp only at hSw); go_simp; all_goals with_reducible rfl)
      try simp only [Act.put, sA, sB, sC]
      refine tkH 8 ⟨some 12, _, _, _, _, _⟩ ?_ rfl ?_ (by assumption) ?_
      rotate_left
      · (intro w hSw; (try dsimp only at hSw); go_simp; all_goals with_reducible rfl)
      try simp only [Act.put, sA, sB, sC]
      refine tkH 9 ⟨some 13, _, _, _, _, _⟩ ?_ rfl ?_ (by assumption) ?_
      rotate_left
      · (intro w hSw; (try dsimp only at hSw); go_simp; all_goals with_reducible rfl)
      try simp only [Act.put, sA, sB, sC]
      refine wpAnyH_done (by kernel_rfl) ?_ _
      go_upto_region 8 with (fail)
      refine wp_region_held_drew (S := (fun w' => w'.cell? ⟨s, 0, none⟩ = some (.int .i64 l1) ∧ w'.cell? ⟨s, 1, none⟩ = some (.int .i64 u1) ∧ w'.cell? ⟨xw2.heap.size, 0, none⟩ = some (.int .i64 l2) ∧ w'.cell? ⟨xw2.heap.size, 1, none⟩ = some (.int .i64 u2))) (by kernel_rfl) (by simp [go_sem, World.cell?_alloc_past, *]) (fun hHeld => ?_)
      refine tkH 0 ⟨some 54, _, _, _, _, _⟩ ?_ rfl ?_ (by assumption) ?_
      rotate_left
      · (intro w hSw; (try dsimp only at hSw); go_simp; all_goals with_reducible rfl)
      try simp only [Act.put, sA, sB, sC]
      refine tkH 1 ⟨some 55, _, _, _, _, _⟩ ?_ rfl ?_ (by assumption) ?_
      rotate_left
      · (intro w hSw; (try dsimp only at hSw); go_simp; all_goals with_reducible rfl)
      try simp only [Act.put, sA, sB, sC]
      refine tkH 2 ⟨some 56, _, _, _, _, _⟩ ?_ rfl ?_ (by assumption) ?_
      rotate_left
      · (intro w hSw; (try dsimp only at hSw); go_simp; all_goals with_reducible rfl)
      try simp only [Act.put, sA, sB, sC]
      refine tkH 4 ⟨some 58, _, _, _, _, _⟩ ?_ rfl ?_ (by assumption) ?_
      rotate_left
      · (intro w hSw; (try dsimp only at hSw); go_simp; all_goals with_reducible rfl)
      try simp only [Act.put, sA, sB, sC]
      refine tkH 5 ⟨some 59, _, _, _, _, _⟩ ?_ rfl ?_ (by assumption) ?_
      rotate_left
      · (intro w hSw; (try dsimp only at hSw); go_simp; all_goals with_reducible rfl)
      try simp only [Act.put, sA, sB, sC]
      refine tkH 6 ⟨some 60, _, _, _, _, _⟩ ?_ rfl ?_ (by assumption) ?_
      rotate_left
      · (intro w hSw; (try dsimp only at hSw); go_simp; all_goals with_reducible rfl)
      try simp only [Act.put, sA, sB, sC]
      refine tkH 9 ⟨some 63, _, _, _, _, _⟩ ?_ rfl ?_ (by assumption) ?_
      rotate_left
      · (intro w hSw; (try dsimp only at hSw); go_simp; all_goals with_reducible rfl)
      try simp only [Act.put, sA, sB, sC]
      refine tkH 10 ⟨some 64, _, _, _, _, _⟩ ?_ rfl ?_ (by assumption) ?_
      rotate_left
      · (intro w hSw; (try dsimp only at hSw); go_simp; all_goals with_reducible rfl)
      try simp only [Act.put, sA, sB, sC]
      refine tkH 11 ⟨some 65, _, _, _, _, _⟩ ?_ rfl ?_ (by assumption) ?_
      rotate_left
      · (intro w hSw; (try dsimp only at hSw); go_simp; all_goals with_reducible rfl)
      try simp only [Act.put, sA, sB, sC]
      refine tkH 13 ⟨some 67, _, _, _, _, _⟩ ?_ rfl ?_ (by assumption) ?_
      rotate_left
      · (intro w hSw; (try dsimp only at hSw); go_simp; all_goals with_reducible rfl)
      try simp only [Act.put, sA, sB, sC]
      refine tkH 14 ⟨some 68, _, _, _, _, _⟩ ?_ rfl ?_ (by assumption) ?_
      rotate_left
      · (intro w hSw; (try dsimp only at hSw); go_simp; all_goals with_reducible rfl)
      try simp only [Act.put, sA, sB, sC]
      refine tkH 15 ⟨some 69, _, _, _, _, _⟩ ?_ rfl ?_ (by assumption) ?_
      rotate_left
      · (intro w hSw; (try dsimp only at hSw); go_simp; all_goals with_reducible rfl)
      try simp only [Act.put, sA, sB, sC]
      refine wpAnyH_ready (rs := [3]) (by kernel_rfl) (by simp) ?_
      refine AllReadyH.cons rfl (fun K hK => ?_) AllReadyH.nil
      go_simp
      refine (baseFloor_q P u1 q1 _ P0 (by omega) (by omega) (by omega) hq1).mono ?_
      rintro e wq ⟨rfl, rfl⟩
      go_wp2_with fail
      refine hK.out _ _ (by simp [go_sem, World.cell?_alloc_past, *]) (fun hHeld => ?_)
      clear hK K
      try simp only [Act.put, sA, sB, sC]
      refine wpAnyH_ready (rs := [7]) (by kernel_rfl) (by simp) ?_
      refine AllReadyH.cons rfl (fun K hK => ?_) AllReadyH.nil
      go_simp
      refine (baseFloor_q Q u2 q2 _ Q0 (by omega) (by omega) (by omega) hq2).mono ?_
      rintro e wq ⟨rfl, rfl⟩
      go_wp2_with fail
      refine hK.out _ _ (by simp [go_sem, World.cell?_alloc_past, *]) (fun hHeld => ?_)
      clear hK K
      try simp only [Act.put, sA, sB, sC]
      refine tkH 8 ⟨some 62, _, _, _, _, _⟩ ?_ rfl ?_ (by assumption) ?_
      rotate_left
      · (intro w hSw; (try dsimp only at hSw); go_simp; all_goals with_reducible rfl)
      try simp only [Act.put, sA, sB, sC]
      refine wpAnyH_ready (rs := [12]) (by kernel_rfl) (by simp) ?_
      refine AllReadyH.cons rfl (fun K hK => ?_) AllReadyH.nil
      go_simp
      refine (baseCeil_q P l1 r1 _ P0 (by omega) (by omega) (by omega) hr1).mono ?_
      rintro e wq ⟨rfl, rfl⟩
      go_wp2_with fail
      refine hK.out _ _ (by simp [go_sem, World.cell?_alloc_past, *]) (fun hHeld => ?_)
      clear hK K
      try simp only [Act.put, sA, sB, sC]
      refine wpAnyH_ready (rs := [16]) (by kernel_rfl) (by simp) ?_
      refine AllReadyH.cons rfl (fun K hK => ?_) AllReadyH.nil
      go_simp
      refine (baseCeil_q Q l2 r2 _ Q0 (by omega) (by omega) (by omega) hr2).mono ?_
      rintro e wq ⟨rfl, rfl⟩
      go_wp2_with fail
      refine hK.out _ _ (by simp [go_sem, World.cell?_alloc_past, *]) (fun hHeld => ?_)
      clear hK K
      try simp only [Act.put, sA, sB, sC]
      refine tkH 17 ⟨some 71, _, _, _, _, _⟩ ?_ rfl ?_ (by assumption) ?_
      rotate_left
      · (intro w hSw; (try dsimp only at hSw); go_simp; all_goals with_reducible rfl)
      try simp only [Act.put, sA, sB, sC]
      refine tkH 18 ⟨some 72, _, _, _, _, _⟩ ?_ rfl ?_ (by assumption) ?_
      rotate_left
      · (intro w hSw; (try dsimp only at hSw); go_simp; all_goals with_reducible rfl)
      try simp only [Act.put, sA, sB, sC]
      refine wpAnyH_ready (rs := [19]) (by kernel_rfl) (by simp) ?_
      refine AllReadyH.cons rfl (fun K hK => ?_) AllReadyH.nil
      go_simp
      go_wp2_with fail
      refine hK.out _ _ (by simp [go_sem, World.cell?_alloc_past, *]) (fun hHeld => ?_)
      clear hK K
      try simp only [Act.put, sA, sB, sC]
      refine tkH 20 ⟨some 7, _, _, _, _, _⟩ ?_ rfl ?_ (by assumption) ?_
      rotate_left
      · (intro w hSw; (try dsimp only at hSw); go_simp; all_goals with_reducible rfl)
      try simp only [Act.put, sA, sB, sC]
      refine wpAnyH_done (by kernel_rfl) ?_ _
      go_wp2
      refine bodyPost_ret (v := .tuple #[.agg #[.int .i64 q1, .int .i64 r2], .int .i64 0]) (by simp [results, Try.results50, go_sem, World.cell?_alloc_past, *]) rfl ⟨rfl, ?_⟩
      (repeat (first | (with_reducible refine Below.drew ?_) | (with_reducible refine below_drewN ?_ _) | (with_reducible refine Below.alloc ?_ (by first | omega | (simp; done) | (simp; omega) | (simp at *; omega)) _) | (with_reducible refine Below.setCell ?_ (by first | omega | (simp; done) | (simp; omega) | (simp at *; omega)) _) | (with_reducible exact Below.refl _ _) | (with_reducible assumption) | (with_reducible refine Below.trans ?_ (Below.mono (by assumption) (by first | omega | (simp; done) | (simp; omega) | (simp at *; omega))))))
    · have c2' : max r1 r2 = r1 := by omega
      rw [c1'] at hqo
      rw [c2'] at hro
      subst hqo hro
      clear hq hr
      go_upto_region 7 with ((go_at_call 33; ((with_reducible refine (baseWithin_any _ _ _ _).mono ?_)); rintro e w' ⟨rfl, rfl⟩))
      refine wp_region_held_drew (S := (fun w' => w'.cell? ⟨w.heap.size, 0, none⟩ = some (.int .i64 x) ∧ w'.cell? ⟨w.heap.size, 1, none⟩ = some (.int .i64 y))) (by kernel_rfl) (by simp [go_sem, World.cell?_alloc_past, *]) (fun hHeld => ?_)
      refine tkH 0 ⟨some 46, _, _, _, _, _⟩ ?_ rfl ?_ (by assumption) ?_
      rotate_left
      · (intro w hSw; (try dsimp only at hSw); go_simp; all_goals with_reducible rfl)
      try simp only [Act.put, sA, sB, sC]
      refine tkH 1 ⟨some 47, _, _, _, _, _⟩ ?_ rfl ?_ (by assumption) ?_
      rotate_left
      · (intro w hSw; (try dsimp only at hSw); go_simp; all_goals with_reducible rfl)
      try simp only [Act.put, sA, sB, sC]
      refine tkH 2 ⟨some 48, _, _, _, _, _⟩ ?_ rfl ?_ (by assumption) ?_
      rotate_left
      · (intro w hSw; (try dsimp only at hSw); go_simp; all_goals with_reducible rfl)
      try simp only [Act.put, sA, sB, sC]
      refine tkH 3 ⟨some 49, _, _, _, _, _⟩ ?_ rfl ?_ (by assumption) ?_
      rotate_left
      · (intro w hSw; (try dsimp only at hSw); go_simp; all_goals with_reducible rfl)
      try simp only [Act.put, sA, sB, sC]
      refine tkH 4 ⟨some 50, _, _, _, _, _⟩ ?_ rfl ?_ (by assumption) ?_
      rotate_left
      · (intro w hSw; (try dsimp only at hSw); go_simp; all_goals with_reducible rfl)
      try simp only [Act.put, sA, sB, sC]
      refine tkH 5 ⟨some 51, _, _, _, _, _⟩ ?_ rfl ?_ (by assumption) ?_
      rotate_left
      · (intro w hSw; (try dsimp only at hSw); go_simp; all_goals with_reducible rfl)
      try simp only [Act.put, sA, sB, sC]
      refine tkH 6 ⟨some 52, _, _, _, _, _⟩ ?_ rfl ?_ (by assumption) ?_
      rotate_left
      · (intro w hSw; (try dsimp only at hSw); go_simp; all_goals with_reducible rfl)
      try simp only [Act.put, sA, sB, sC]
      refine tkH 7 ⟨some 53, _, _, _, _, _⟩ ?_ rfl ?_ (by assumption) ?_
      rotate_left
      · (intro w hSw; (try dsimp only at hSw); go_simp; all_goals with_reducible rfl)
      try simp only [Act.put, sA, sB, sC]
      refine tkH 8 ⟨some 12, _, _, _, _, _⟩ ?_ rfl ?_ (by assumption) ?_
      rotate_left
      · (intro w hSw; (try dsimp only at hSw); go_simp; all_goals with_reducible rfl)
      try simp only [Act.put, sA, sB, sC]
      refine tkH 9 ⟨some 13, _, _, _, _, _⟩ ?_ rfl ?_ (by assumption) ?_
      rotate_left
      · (intro w hSw; (try dsimp only at hSw); go_simp; all_goals with_reducible rfl)
      try simp only [Act.put, sA, sB, sC]
      refine wpAnyH_done (by kernel_rfl) ?_ _
      go_upto_region 8 with (fail)
      refine wp_region_held_drew (S := (fun w' => w'.cell? ⟨s, 0, none⟩ = some (.int .i64 l1) ∧ w'.cell? ⟨s, 1, none⟩ = some (.int .i64 u1) ∧ w'.cell? ⟨xw2.heap.size, 0, none⟩ = some (.int .i64 l2) ∧ w'.cell? ⟨xw2.heap.size, 1, none⟩ = some (.int .i64 u2))) (by kernel_rfl) (by simp [go_sem, World.cell?_alloc_past, *]) (fun hHeld => ?_)
      refine tkH 0 ⟨some 54, _, _, _, _, _⟩ ?_ rfl ?_ (by assumption) ?_
      rotate_left
      · (intro w hSw; (try dsimp only at hSw); go_simp; all_goals with_reducible rfl)
      try simp only [Act.put, sA, sB, sC]
      refine tkH 1 ⟨some 55, _, _, _, _, _⟩ ?_ rfl ?_ (by assumption) ?_
      rotate_left
      · (intro w hSw; (try dsimp only at hSw); go_simp; all_goals with_reducible rfl)
      try simp only [Act.put, sA, sB, sC]
      refine tkH 2 ⟨some 56, _, _, _, _, _⟩ ?_ rfl ?_ (by assumption) ?_
      rotate_left
      · (intro w hSw; (try dsimp only at hSw); go_simp; all_goals with_reducible rfl)
      try simp only [Act.put, sA, sB, sC]
      refine tkH 4 ⟨some 58, _, _, _, _, _⟩ ?_ rfl ?_ (by assumption) ?_
      rotate_left
      · (intro w hSw; (try dsimp only at hSw); go_simp; all_goals with_reducible rfl)
      try simp only [Act.put, sA, sB, sC]
      refine tkH 5 ⟨some 59, _, _, _, _, _⟩ ?_ rfl ?_ (by assumption) ?_
      rotate_left
      · (intro w hSw; (try dsimp only at hSw); go_simp; all_goals with_reducible rfl)
      try simp only [Act.put, sA, sB, sC]
      refine tkH 6 ⟨some 60, _, _, _, _, _⟩ ?_ rfl ?_ (by assumption) ?_
      rotate_left
      · (intro w hSw; (try dsimp only at hSw); go_simp; all_goals with_reducible rfl)
      try simp only [Act.put, sA, sB, sC]
      refine tkH 9 ⟨some 63, _, _, _, _, _⟩ ?_ rfl ?_ (by assumption) ?_
      rotate_left
      · (intro w hSw; (try dsimp only at hSw); go_simp; all_goals with_reducible rfl)
      try simp only [Act.put, sA, sB, sC]
      refine tkH 10 ⟨some 64, _, _, _, _, _⟩ ?_ rfl ?_ (by assumption) ?_
      rotate_left
      · (intro w hSw; (try dsimp only at hSw); go_simp; all_goals with_reducible rfl)
      try simp only [Act.put, sA, sB, sC]
      refine tkH 11 ⟨some 65, _, _, _, _, _⟩ ?_ rfl ?_ (by assumption) ?_
      rotate_left
      · (intro w hSw; (try dsimp only at hSw); go_simp; all_goals with_reducible rfl)
      try simp only [Act.put, sA, sB, sC]
      refine tkH 13 ⟨some 67, _, _, _, _, _⟩ ?_ rfl ?_ (by assumption) ?_
      rotate_left
      · (intro w hSw; (try dsimp only at hSw); go_simp; all_goals with_reducible rfl)
      try simp only [Act.put, sA, sB, sC]
      refine tkH 14 ⟨some 68, _, _, _, _, _⟩ ?_ rfl ?_ (by assumption) ?_
      rotate_left
      · (intro w hSw; (try dsimp only at hSw); go_simp; all_goals with_reducible rfl)
      try simp only [Act.put, sA, sB, sC]
      refine tkH 15 ⟨some 69, _, _, _, _, _⟩ ?_ rfl ?_ (by assumption) ?_
      rotate_left
      · (intro w hSw; (try dsimp only at hSw); go_simp; all_goals with_reducible rfl)
      try simp only [Act.put, sA, sB, sC]
      refine wpAnyH_ready (rs := [3]) (by kernel_rfl) (by simp) ?_
      refine AllReadyH.cons rfl (fun K hK => ?_) AllReadyH.nil
      go_simp
      refine (baseFloor_q P u1 q1 _ P0 (by omega) (by omega) (by omega) hq1).mono ?_
      rintro e wq ⟨rfl, rfl⟩
      go_wp2_with fail
      refine hK.out _ _ (by simp [go_sem, World.cell?_alloc_past, *]) (fun hHeld => ?_)
      clear hK K
      try simp only [Act.put, sA, sB, sC]
      refine wpAnyH_ready (rs := [7]) (by kernel_rfl) (by simp) ?_
      refine AllReadyH.cons rfl (fun K hK => ?_) AllReadyH.nil
      go_simp
      refine (baseFloor_q Q u2 q2 _ Q0 (by omega) (by omega) (by omega) hq2).mono ?_
      rintro e wq ⟨rfl, rfl⟩
      go_wp2_with fail
      refine hK.out _ _ (by simp [go_sem, World.cell?_alloc_past, *]) (fun hHeld => ?_)
      clear hK K
      try simp only [Act.put, sA, sB, sC]
      refine tkH 8 ⟨some 62, _, _, _, _, _⟩ ?_ rfl ?_ (by assumption) ?_
      rotate_left
      · (intro w hSw; (try dsimp only at hSw); go_simp; all_goals with_reducible rfl)
      try simp only [Act.put, sA, sB, sC]
      refine wpAnyH_ready (rs := [12]) (by kernel_rfl) (by simp) ?_
      refine AllReadyH.cons rfl (fun K hK => ?_) AllReadyH.nil
      go_simp
      refine (baseCeil_q P l1 r1 _ P0 (by omega) (by omega) (by omega) hr1).mono ?_
      rintro e wq ⟨rfl, rfl⟩
      go_wp2_with fail
      refine hK.out _ _ (by simp [go_sem, World.cell?_alloc_past, *]) (fun hHeld => ?_)
      clear hK K
      try simp only [Act.put, sA, sB, sC]
      refine wpAnyH_ready (rs := [16]) (by kernel_rfl) (by simp) ?_
      refine AllReadyH.cons rfl (fun K hK => ?_) AllReadyH.nil
      go_simp
      refine (baseCeil_q Q l2 r2 _ Q0 (by omega) (by omega) (by omega) hr2).mono ?_
      rintro e wq ⟨rfl, rfl⟩
      go_wp2_with fail
      refine hK.out _ _ (by simp [go_sem, World.cell?_alloc_past, *]) (fun hHeld => ?_)
      clear hK K
      try simp only [Act.put, sA, sB, sC]
      refine tkH 17 ⟨some 71, _, _, _, _, _⟩ ?_ rfl ?_ (by assumption) ?_
      rotate_left
      · (intro w hSw; (try dsimp only at hSw); go_simp; all_goals with_reducible rfl)
      try simp only [Act.put, sA, sB, sC]
      refine tkH 18 ⟨some 72, _, _, _, _, _⟩ ?_ rfl ?_ (by assumption) ?_
      rotate_left
      · (intro w hSw; (try dsimp only at hSw); go_simp; all_goals with_reducible rfl)
      try simp only [Act.put, sA, sB, sC]
      refine wpAnyH_ready (rs := [19]) (by kernel_rfl) (by simp) ?_
      refine AllReadyH.cons rfl (fun K hK => ?_) AllReadyH.nil
      go_simp
      go_wp2_with fail
      refine hK.out _ _ (by simp [go_sem, World.cell?_alloc_past, *]) (fun hHeld => ?_)
      clear hK K
      try simp only [Act.put, sA, sB, sC]
      refine tkH 20 ⟨some 7, _, _, _, _, _⟩ ?_ rfl ?_ (by assumption) ?_
      rotate_left
      · (intro w hSw; (try dsimp only at hSw); go_simp; all_goals with_reducible rfl)
      try simp only [Act.put, sA, sB, sC]
      refine wpAnyH_done (by kernel_rfl) ?_ _
      go_wp2
      refine bodyPost_ret (v := .tuple #[.agg #[.int .i64 q1, .int .i64 r1], .int .i64 0]) (by simp [results, Try.results50, go_sem, World.cell?_alloc_past, *]) rfl ⟨rfl, ?_⟩
      (repeat (first | (with_reducible refine Below.drew ?_) | (with_reducible refine below_drewN ?_ _) | (with_reducible refine Below.alloc ?_ (by first | omega | (simp; done) | (simp; omega) | (simp at *; omega)) _) | (with_reducible refine Below.setCell ?_ (by first | omega | (simp; done) | (simp; omega) | (simp at *; omega)) _) | (with_reducible exact Below.refl _ _) | (with_reducible assumption) | (with_reducible refine Below.trans ?_ (Below.mono (by assumption) (by first | omega | (simp; done) | (simp; omega) | (simp at *; omega))))))
end Go.Proofs.Ytjkhjjmmkdfjmaa
