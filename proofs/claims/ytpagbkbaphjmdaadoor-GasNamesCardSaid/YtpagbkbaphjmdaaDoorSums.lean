/- What gas.sumsOf returns. -/
import Derived.Test.YtpagbkbaphjmdaaDoorParts
import Derived.StillTailTactics
import Derived.LoopN
import Derived.Outline
namespace Go.Proofs.YtpagbkbaphjmdaaDoor
open Go.ChangeShapes Go.WideShapes Go.ChangeAt Go.RowKit
set_option linter.unusedVariables false

/-- The sum of a quantity of the parts. -/
def sumF (f : Part → Int) (P : List Part) : Int := (P.map f).sum
def pO (p : Part) : Int := p.a * p.o
def pH (p : Part) : Int := p.a * p.h
def pN (p : Part) : Int := p.a * (1000 - p.o - p.h)
def pA (p : Part) : Int := p.a
theorem sumF_snoc (f : Part → Int) {P : List Part} {k : Nat} (hk : k < P.length) : sumF f (P.take (k + 1)) = sumF f (P.take k) + f P[k] := by
  unfold sumF
  rw [List.take_succ_eq_append_getElem hk, List.map_append, List.sum_append]
  simp
theorem sumF_bd (f : Part → Int) (M : Int) (hM : 0 ≤ M) (P : List Part) (h : ∀ p ∈ P, 0 ≤ f p ∧ f p ≤ M) : 0 ≤ sumF f P ∧ sumF f P ≤ M * P.length := by
  induction P with
  | nil => simp [sumF]
  | cons p r ih =>
    have h1 := h p (by simp)
    have h2 := ih fun q hq => h q (by simp [hq])
    have e : sumF f (p :: r) = f p + sumF f r := by simp [sumF]
    rw [e]
    have : M * ((p :: r).length : Int) = M * r.length + M := by simp [Int.mul_add]
    rw [this]
    omega
structure Part.Right (p : Part) : Prop where
  o0 : 0 ≤ p.o
  o1 : p.o ≤ 1000
  h0 : 0 ≤ p.h
  h1 : p.h ≤ 1000
  s : p.o + p.h ≤ 1000
  a0 : 0 ≤ p.a
  a1 : p.a ≤ 1000000000
theorem mul_bd {a x : Int} (a0 : 0 ≤ a) (a1 : a ≤ 1000000000) (x0 : 0 ≤ x) (x1 : x ≤ 1000) : 0 ≤ a * x ∧ a * x ≤ 1000000000000 :=
  ⟨Int.mul_nonneg a0 x0, Int.le_trans (Int.mul_le_mul a1 x1 x0 (by omega)) (by omega)⟩
theorem take_bd (f : Part → Int) (M : Int) (hM : 0 ≤ M) (P : List Part) (hl : P.length ≤ 12) (h : ∀ p ∈ P, 0 ≤ f p ∧ f p ≤ M) (k : Nat) : 0 ≤ sumF f (P.take k) ∧ sumF f (P.take k) ≤ M * 12 := by
  obtain ⟨h1, h2⟩ := sumF_bd f M hM (P.take k) fun p hp => h p (List.mem_of_mem_take hp)
  refine ⟨h1, Int.le_trans h2 (Int.mul_le_mul_of_nonneg_left ?_ hM)⟩
  have : (P.take k).length ≤ P.length := List.length_take_le' _ _
  omega
set_option maxHeartbeats 1000000 in
theorem sumsOf_any (P : List Part) (b off cap : Nat) (w : World) (hl : P.length ≤ 12) (hlt : b < w.heap.size) (hP : PartsAt w b off P) (hR : ∀ p ∈ P, p.Right) :
    Calls Tryd.prog 34 #[.slice (some ⟨b, off, none⟩) P.length cap] w fun e w' => e = .returned (.agg #[.int .i64 (sumF pO P), .int .i64 (sumF pH P), .int .i64 (sumF pN P), .int .i64 (sumF pA P)]) ∧ Below w.heap.size w w' := by
  have HP : Hid (PartsAt w b off P) := hP
  have HR : Hid (∀ p ∈ P, p.Right) := hR
  clear hP hR
  go_enter Tryd.func34, Tryd.ntmps34
  go_wp2
  go_loopw [10] (fun i wr => ∃ k : Nat, k ≤ P.length ∧ i = .int .i64 k ∧ Below w.heap.size w wr ∧ w.heap.size + 2 ≤ wr.heap.size
      ∧ wr.cell? ⟨w.heap.size + 1, 0, none⟩ = some (.int .i64 (sumF pO (P.take k))) ∧ wr.cell? ⟨w.heap.size + 1, 1, none⟩ = some (.int .i64 (sumF pH (P.take k))) ∧ wr.cell? ⟨w.heap.size + 1, 2, none⟩ = some (.int .i64 (sumF pN (P.take k))) ∧ wr.cell? ⟨w.heap.size + 1, 3, none⟩ = some (.int .i64 (sumF pA (P.take k)))
      ∧ (∀ j, j < 4 → wr.cell? ⟨w.heap.size, j, none⟩ = some (.int .i64 0)) ∧ (∀ j, wr.frozen? ⟨w.heap.size, j, none⟩ = false) ∧ (∀ j, wr.frozen? ⟨w.heap.size + 1, j, none⟩ = false)) (fun i _ => P.length - (intOf i).toNat)
  case atStart =>
    refine ⟨0, by omega, rfl, (by (repeat (first | (with_reducible refine Below.drew ?_) | (with_reducible refine below_drewN ?_ _) | (with_reducible refine Below.alloc ?_ (by first | omega | (simp; done) | (simp; omega) | (simp at *; omega)) _) | (with_reducible refine Below.setCell ?_ (by first | omega | (simp; done) | (simp; omega) | (simp at *; omega)) _) | (with_reducible exact Below.refl _ _) | (with_reducible assumption) | (with_reducible refine Below.trans ?_ (Below.mono (by assumption) (by first | omega | (simp; done) | (simp; omega) | (simp at *; omega))))))), by simp, by simp [sumF], by simp [sumF], by simp [sumF], by simp [sumF], ?_, by intro j; simp [go_sem], by intro j; simp [go_sem]⟩
    intro j hj
    have hj4 : j = 0 ∨ j = 1 ∨ j = 2 ∨ j = 3 := by omega
    rcases hj4 with rfl | rfl | rfl | rfl <;> simp [go_sem, World.cell?_alloc_past]
  case round =>
    obtain ⟨k, hk, rfl, hB, hsz, d0, d1, d2, d3, hz, hf0, hf1⟩ := hrel
    by_cases hkl : k < P.length
    · obtain ⟨c0, c1, c2⟩ := HP.out.below hB hlt k hkl
      have hr := HR.out P[k] (List.getElem_mem hkl)
      have i0 := Lib.hid (sumF_snoc pO hkl)
      have i1 := Lib.hid (sumF_snoc pH hkl)
      have i2 := Lib.hid (sumF_snoc pN hkl)
      have i3 := Lib.hid (sumF_snoc pA hkl)
      have HZ := Lib.hid hz
      clear hz
      have n1 : wr.heap.size ≠ w.heap.size + 1 := by omega
      have n2 : w.heap.size + 1 < wr.heap.size := by omega
      have n3 : wr.heap.size ≠ w.heap.size := by omega
      have n4 : w.heap.size < wr.heap.size := by omega
      have n5 : w.heap.size < wr.heap.size + 1 := by omega
      have n6 : w.heap.size < wr.heap.size + 1 + 1 := by omega
      have n7 : w.heap.size < wr.heap.size + 1 + 1 + 1 := by omega
      have n8 : w.heap.size < wr.heap.size + 1 + 1 + 1 + 1 := by omega
      have n9 : w.heap.size + 1 < wr.heap.size + 1 + 1 := by omega
      have n10 : w.heap.size + 1 < wr.heap.size + 1 + 1 + 1 := by omega
      obtain ⟨r1, r2, r3, r4, r5, r6, r7⟩ := hr
      obtain ⟨o, ho⟩ : ∃ x, Hid (P[k].o = x) := ⟨P[k].o, rfl⟩
      obtain ⟨h, hh⟩ : ∃ x, Hid (P[k].h = x) := ⟨P[k].h, rfl⟩
      obtain ⟨a, ha⟩ : ∃ x, Hid (P[k].a = x) := ⟨P[k].a, rfl⟩
      rw [ho.out] at c0 r1 r2 r5
      rw [hh.out] at c1 r3 r4 r5
      rw [ha.out] at c2 r6 r7
      obtain ⟨so, eo⟩ : ∃ x, Hid (sumF pO (P.take k) = x) := ⟨sumF pO (P.take k), rfl⟩
      obtain ⟨sh, eh⟩ : ∃ x, Hid (sumF pH (P.take k) = x) := ⟨sumF pH (P.take k), rfl⟩
      obtain ⟨sn, en⟩ : ∃ x, Hid (sumF pN (P.take k) = x) := ⟨sumF pN (P.take k), rfl⟩
      obtain ⟨sa, ea⟩ : ∃ x, Hid (sumF pA (P.take k) = x) := ⟨sumF pA (P.take k), rfl⟩
      have bo := take_bd pO 1000000000000 (by omega) P hl (fun p hp => by have := HR.out p hp; exact mul_bd this.a0 this.a1 this.o0 this.o1) k
      have bh := take_bd pH 1000000000000 (by omega) P hl (fun p hp => by have := HR.out p hp; exact mul_bd this.a0 this.a1 this.h0 this.h1) k
      have bn := take_bd pN 1000000000000 (by omega) P hl (fun p hp => by have := HR.out p hp; have h1 := this.o0; have h2 := this.h0; have h3 := this.s; exact mul_bd this.a0 this.a1 (by omega) (by omega)) k
      have ba := take_bd pA 1000000000 (by omega) P hl (fun p hp => by have := HR.out p hp; exact ⟨this.a0, this.a1⟩) k
      rw [eo.out] at d0 bo
      rw [eh.out] at d1 bh
      rw [en.out] at d2 bn
      rw [ea.out] at d3 ba
      obtain ⟨bo0, bo1⟩ := bo
      obtain ⟨bh0, bh1⟩ := bh
      obtain ⟨bn0, bn1⟩ := bn
      obtain ⟨ba0, ba1⟩ := ba
      obtain ⟨xo, hxo⟩ : ∃ x, Hid (a * o = x) := ⟨a * o, rfl⟩
      obtain ⟨xh, hxh⟩ : ∃ x, Hid (a * h = x) := ⟨a * h, rfl⟩
      obtain ⟨xn, hxn⟩ : ∃ x, Hid (a * (1000 - o - h) = x) := ⟨a * (1000 - o - h), rfl⟩
      have m1 := mul_bd r6 r7 r1 r2
      have m2 := mul_bd r6 r7 r3 r4
      have m3 := mul_bd r6 r7 (x := 1000 - o - h) (by omega) (by omega)
      rw [hxo.out] at m1
      rw [hxh.out] at m2
      rw [hxn.out] at m3
      have q1 : IntKind.i64.wrap (a * o) = xo := by rw [hxo.out]; exact IntWalk.i64_in _ (by omega)
      have q2 : IntKind.i64.wrap (a * h) = xh := by rw [hxh.out]; exact IntWalk.i64_in _ (by omega)
      have q3 : IntKind.i64.wrap (a * (1000 - o - h)) = xn := by rw [hxn.out]; exact IntWalk.i64_in _ (by omega)
      obtain ⟨m10, m11⟩ := m1
      obtain ⟨m20, m21⟩ := m2
      obtain ⟨m30, m31⟩ := m3
      have w1 : IntKind.i64.wrap (so + xo) = so + xo := IntWalk.i64_in _ (by omega)
      have w2 : IntKind.i64.wrap (sh + xh) = sh + xh := IntWalk.i64_in _ (by omega)
      have w3 : IntKind.i64.wrap (sn + xn) = sn + xn := IntWalk.i64_in _ (by omega)
      have w4 : IntKind.i64.wrap (sa + a) = sa + a := IntWalk.i64_in _ (by omega)
      have x0 : ∀ w, (Instr.index 76 (.agg #[.int .i64 o, .int .i64 h, .int .i64 (1000 - o - h)]) (.int .i64 0)).run Tryd.prog w = .ok (.int .i64 o) w := fun _ => by kernel_rfl
      have x1 : ∀ w, (Instr.index 76 (.agg #[.int .i64 o, .int .i64 h, .int .i64 (1000 - o - h)]) (.int .i64 1)).run Tryd.prog w = .ok (.int .i64 h) w := fun _ => by kernel_rfl
      have x2 : ∀ w, (Instr.index 76 (.agg #[.int .i64 o, .int .i64 h, .int .i64 (1000 - o - h)]) (.int .i64 2)).run Tryd.prog w = .ok (.int .i64 (1000 - o - h)) w := fun _ => by kernel_rfl
      go_wp2_with ((go_at_call 43; ((with_reducible refine (partsOf_any _ _ _ r1 r2 r3 r4).mono ?_)); rintro e w' ⟨rfl, rfl⟩))
      refine wp_loop_rounds 4 ?_
      rw [rounds_succ]
      go_wp2
      go_region
      go_wp2
      rw [rounds_succ]
      go_wp2
      go_region
      go_wp2
      rw [rounds_succ]
      go_wp2
      go_region
      go_wp2
      rw [rounds_succ]
      go_wp2
      have p0 : pO P[k] = xo := by unfold pO; rw [ha.out, ho.out, hxo.out]
      have p1 : pH P[k] = xh := by unfold pH; rw [ha.out, hh.out, hxh.out]
      have p2 : pN P[k] = xn := by unfold pN; rw [ha.out, ho.out, hh.out, hxn.out]
      have p3 : pA P[k] = a := by unfold pA; rw [ha.out]
      refine ⟨⟨k + 1, by omega, by go_num, (by (repeat (first | (with_reducible refine Below.drew ?_) | (with_reducible refine below_drewN ?_ _) | (with_reducible refine Below.alloc ?_ (by first | omega | (simp; done) | (simp; omega) | (simp at *; omega)) _) | (with_reducible refine Below.setCell ?_ (by first | omega | (simp; done) | (simp; omega) | (simp at *; omega)) _) | (with_reducible exact Below.refl _ _) | (with_reducible assumption) | (with_reducible refine Below.trans ?_ (Below.mono (by assumption) (by first | omega | (simp; done) | (simp; omega) | (simp at *; omega))))))), by simp; omega, ?_, ?_, ?_, ?_, ?_, ?_, ?_⟩, by simp [intOf]; omega⟩
      · rw [i0.out, p0, eo.out]
        clear x0 x1 x2
        simp [go_sem, World.cell?_alloc_past, *]
      · rw [i1.out, p1, eh.out]
        clear x0 x1 x2
        simp [go_sem, World.cell?_alloc_past, *]
      · rw [i2.out, p2, en.out]
        clear x0 x1 x2
        simp [go_sem, World.cell?_alloc_past, *]
      · rw [i3.out, p3, ea.out]
        clear x0 x1 x2
        simp [go_sem, World.cell?_alloc_past, *]
      · intro j hj
        have := HZ.out j hj
        simp [go_sem, World.cell?_alloc_past, *]
      · intro j; simp [go_sem, *]
      · intro j; simp [go_sem, *]
    · have hkk : k = P.length := by omega
      have e0 := hz 0 (by omega)
      have e1 := hz 1 (by omega)
      have e2 := hz 2 (by omega)
      have e3 := hz 3 (by omega)
      clear hz
      have tk : P.take k = P := by rw [hkk, List.take_length]
      rw [tk] at d0 d1 d2 d3
      clear tk hkk
      go_wp2
      refine bodyPost_ret (v := .agg #[.int .i64 (sumF pO P), .int .i64 (sumF pH P), .int .i64 (sumF pN P), .int .i64 (sumF pA P)]) (by simp [results, Tryd.results34, go_sem, e0, e1, e2, e3]) rfl ⟨rfl, ?_⟩
      (repeat (first | (with_reducible refine Below.drew ?_) | (with_reducible refine below_drewN ?_ _) | (with_reducible refine Below.alloc ?_ (by first | omega | (simp; done) | (simp; omega) | (simp at *; omega)) _) | (with_reducible refine Below.setCell ?_ (by first | omega | (simp; done) | (simp; omega) | (simp at *; omega)) _) | (with_reducible exact Below.refl _ _) | (with_reducible assumption) | (with_reducible refine Below.trans ?_ (Below.mono (by assumption) (by first | omega | (simp; done) | (simp; omega) | (simp at *; omega))))))
end Go.Proofs.YtpagbkbaphjmdaaDoor
