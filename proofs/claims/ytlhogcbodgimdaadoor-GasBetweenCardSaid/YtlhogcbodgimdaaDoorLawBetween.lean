/- The walk of shotlinelaw01.GasBetween: it returns true. -/
import Derived.Test.YtlhogcbodgimdaaDoorAwake
import Derived.Test.YtlhogcbodgimdaaDoorMixHelp
import Derived.Test.YtlhogcbodgimdaaDoorBetween
import Derived.Test.YtlhogcbodgimdaaDoorArrF
import Derived.StillTailTactics
import Derived.Outline
namespace Go.Proofs.YtlhogcbodgimdaaDoor
open Go.ChangeShapes Go.WideShapes Go.ChangeAt Go.RowKit
set_option linter.unusedVariables false
set_option linter.unusedSimpArgs false
attribute [local go_sem ↓] Go.wp_at_zero Go.wp_at_succ

theorem bcellB {B : Nat} {W w1 : World} (hb : Below B W w1) : (∀ b o, b < B → w1.cell? ⟨b, o, none⟩ = W.cell? ⟨b, o, none⟩) ∧ (∀ b o, b < B → w1.frozen? ⟨b, o, none⟩ = W.frozen? ⟨b, o, none⟩) :=
  ⟨fun b o h => hb.cell (p := ⟨b, o, none⟩) h, fun b o h => hb.frozen (p := ⟨b, o, none⟩) h⟩
theorem own_block {w : World} {base : Nat} {e : TypeId} {s n : Nat} {v : Value} {xs : List Value} (h : w.ownsRow base e s v n xs) : ∀ k, v.ownBlock = some k → base ≤ k := by
  intro k hk
  rcases h.2 with ⟨rfl, _⟩ | ⟨g, cap, cur, rfl, hb, _⟩
  · simp [Value.ownBlock] at hk
  · simp [Value.ownBlock] at hk; omega
theorem exit_own {w : World} {base : Nat} {e : TypeId} {v : Value} (P : List Part) (h : Hid (w.ownsRow base e 3 v (P.length - 0) (pcs (P.drop 0).reverse))) (hp : 0 < P.length) : ∃ b cap, v = .slice (some ⟨b, 0, none⟩) P.reverse.length cap ∧ b < w.heap.size ∧ PartsAt w b 0 P.reverse ∧ base ≤ b := by
  have H : w.ownsRow base e 3 v P.reverse.length (pcs P.reverse) := by
    rw [List.length_reverse]
    exact h.out
  refine pAt_own ?_ H
  intro e
  rcases H.2 with ⟨_, h0⟩ | ⟨g, _, _, hv, _⟩
  · rw [List.length_reverse] at h0; omega
  · rw [e] at hv; cases hv
theorem pcs_app (P Q : List Part) : pcs (P ++ Q) = pcs P ++ pcs Q := by unfold pcs; rw [List.flatMap_append]
theorem pcs_rev {P : List Part} {k : Nat} (hk : k < P.length) : pcs (P.drop (k + 1)).reverse ++ [.int .i64 P[k].o, .int .i64 P[k].h, .int .i64 P[k].a] = pcs (P.drop k).reverse := by
  rw [List.drop_eq_getElem_cons hk, List.reverse_cons, pcs_app]
  rfl
theorem lowF_drop (f : Part → Int) {P : List Part} {k : Nat} (hk : k < P.length) : lowF f (P.drop k) = min (lowF f (P.drop (k + 1))) (f P[k]) := by
  rw [List.drop_eq_getElem_cons hk]; rfl
theorem highF_drop (f : Part → Int) {P : List Part} {k : Nat} (hk : k < P.length) : highF f (P.drop k) = max (highF f (P.drop (k + 1))) (f P[k]) := by
  rw [List.drop_eq_getElem_cons hk]; rfl
theorem cells3 (w : World) (x y z : Value) (t : TypeId) : ∀ j u, [x, y, z][j]? = some u → (w.alloc (.cells #[x, y, z] t)).cell? ((⟨w.heap.size, 0, none⟩ : Addr).add j) = some u := by
  intro j u hj
  match j, hj with
  | 0, hj => simp at hj; subst hj; simp [Addr.add]
  | 1, hj => simp at hj; subst hj; simp [Addr.add, go_sem]
  | 2, hj => simp at hj; subst hj; simp [Addr.add, go_sem]
theorem baseLowest_is (n d x y : Int) (w : World) (h0 : 0 ≤ n) (h1 : n ≤ 2000000000000000000) (h2 : 0 < d) (h3 : d ≤ 2000000000000000000) (hx : Hid (n / gcdI n d = x)) (hy : Hid (d / gcdI n d = y)) :
    Calls Tryd.prog 11 #[.int .i64 n, .int .i64 d] w fun e w' => e = .returned (.agg #[.int .i64 x, .int .i64 y]) ∧ Below w.heap.size w w' := by
  have := baseLowest_any n d w h0 h1 h2 h3
  rw [hx.out, hy.out] at this
  exact this
theorem baseIsSmall_t (n d : Int) (w : World) (h0 : 0 ≤ n) (h1 : n ≤ d) (h2 : 1 ≤ d) (h : d ≤ 1000000000) :
    Calls Tryd.prog 10 #[.agg #[.int .i64 n, .int .i64 d]] w fun e w' => e = .returned (.bool true) ∧ Below w.heap.size w w' := by
  have := baseIsSmall_any n d w
  rw [inB_true (by omega) (by omega), inB_true h2 h] at this
  exact this
theorem eqFrac4 (a b : Int) (w : World) : (Op.equalIn 10000 27 (.agg #[.int .i64 a, .int .i64 b]) (.agg #[.int .i64 a, .int .i64 b])).run Tryd.prog w = .ok true w := eqFrac 9998 a b w
set_option maxRecDepth 100000 in
set_option maxHeartbeats 4000000 in
theorem blaw_s (P : List Part) (b0 off cap : Nat) (w : World) (m : Int) (hm : w.cell? ⟨1, 0, none⟩ = some (.int .i64 m)) (hl : P.length ≤ 12) (hlt0 : b0 < w.heap.size) (hP : PartsAt w b0 off P) (hc : Hid (checkPartsE P = 0)) (hE : Hid (mixE P = 0)) (n0 d0 n1 d1 n2 d2 : Int) (q0 : Hid (mixR P 0 = n0)) (q1 : Hid (mixR P 1 = d0)) (q2 : Hid (mixR P 2 = n1)) (q3 : Hid (mixR P 3 = d1)) (q4 : Hid (mixR P 4 = n2)) (q5 : Hid (mixR P 5 = d2)) (N0 : 0 ≤ n0) (D0 : 1 ≤ d0) (E0 : d0 ≤ 1000000000) (S0 : n0 ≤ d0) (N1 : 0 ≤ n1) (D1 : 1 ≤ d1) (E1 : d1 ≤ 1000000000) (S1 : n1 ≤ d1) (N2 : 0 ≤ n2) (D2 : 1 ≤ d2) (E2 : d2 ≤ 1000000000) (S2 : n2 ≤ d2) (FC : ∀ lo0 lo1 hi0 hi1 : Int, Hid (lowF Part.o P = lo0) → Hid (lowF Part.h P = lo1) → Hid (highF Part.o P = hi0) → Hid (highF Part.h P = hi1) → (lo0 * d0 ≤ 1000 * n0 ∧ 1000 * n0 ≤ hi0 * d0) ∧ (lo1 * d1 ≤ 1000 * n1 ∧ 1000 * n1 ≤ hi1 * d1) ∧ (0 ≤ lo0 * d0 ∧ lo0 * d0 ≤ 1000000000000 ∧ 0 ≤ hi0 * d0 ∧ hi0 * d0 ≤ 1000000000000) ∧ (0 ≤ lo1 * d1 ∧ lo1 * d1 ≤ 1000000000000 ∧ 0 ≤ hi1 * d1 ∧ hi1 * d1 ≤ 1000000000000)) (y z g a b M1 M2 S T : Int) (hy : Hid ((d2 - n2) / gcdI (d2 - n2) d2 = y)) (hz : Hid (d2 / gcdI (d2 - n2) d2 = z)) (hg : Hid (gcdI d0 d1 = g)) (gg : 1 ≤ g) (ha : d1 / g = a) (a0 : 0 ≤ a) (a1 : a ≤ 1000000000) (hb : d0 / g = b) (b00 : 0 ≤ b) (b1 : b ≤ 1000000000) (hM1 : IntKind.i64.wrap (n0 * a) = M1) (hM2 : IntKind.i64.wrap (n1 * b) = M2) (hS : IntKind.i64.wrap (M1 + M2) = S) (hT : IntKind.i64.wrap (b * d1) = T) (s0 : 0 ≤ S) (s1 : S ≤ 2000000000000000000) (t0 : 0 < T) (t1 : T ≤ 2000000000000000000) (hy2 : Hid (S / gcdI S T = y)) (hz2 : Hid (T / gcdI S T = z)) (hw0 : Hid (inB d0 1 1000000000 = true)) (hw1 : Hid (inB d1 1 1000000000 = true)) :
    Calls Tryd.prog 3 #[.slice (some ⟨b0, off, none⟩) P.length cap] w fun e w' => e = .returned (.bool true) ∧ Below w.heap.size w w' := by
  have hlm := World.block_lt_of_cell? _ _ hm
  have hne : w.heap.size ≠ 1 := by simp at hlm; omega
  have hl2 : 1 < w.heap.size := by simpa using hlm
  clear hlm
  have hx : Hid (decide (P.length ≤ 15) = true) := by show _ = _; simp; omega
  have hpos : 0 < P.length := by
    rcases P with _ | ⟨p, r⟩
    · exact absurd hc.out (by decide)
    · simp
  have HP := Lib.hid hP
  have HS : Hid (PSl w (some ⟨b0, off, none⟩) P) := Or.inr ⟨b0, off, rfl, hlt0, hP⟩
  clear hP
  obtain ⟨i0, hi, hz0, hz1, hz2⟩ := info_parts infoPart
  have HI := Lib.hid hi
  have HZ0 := Lib.hid hz0
  have HZ1 := Lib.hid hz1
  have HZ2 := Lib.hid hz2
  clear hi hz0 hz1 hz2
  have el : IntKind.i64.wrap ((P.length : Int) - 1) = (P.length : Int) - 1 := IntWalk.i64_in _ (by omega)
  go_enter Tryd.func3, Tryd.ntmps3
  go_wp2_with fail
  refine (awake_any _ m (by exact oldCellM (by (repeat (first | (with_reducible refine Below.drew ?_) | (with_reducible refine below_drewN ?_ _) | (with_reducible refine Below.alloc ?_ (by first | omega | (simp; done) | (simp; omega) | (simp at *; omega)) _) | (with_reducible refine Below.setCell ?_ (by first | omega | (simp; done) | (simp; omega) | (simp at *; omega)) _) | (with_reducible exact Below.refl _ _) | (with_reducible assumption) | (with_reducible refine Below.trans ?_ (Below.mono (by assumption) (by first | omega | (simp; done) | (simp; omega) | (simp at *; omega))))))) hm)).mono ?_
  rintro e w1 ⟨rfl, hbw1⟩
  have z1 := hbw1.size
  try simp at z1
  have hB1 : Below w.heap.size w w1 := (by (repeat (first | (with_reducible refine Below.drew ?_) | (with_reducible refine below_drewN ?_ _) | (with_reducible refine Below.alloc ?_ (by first | omega | (simp; done) | (simp; omega) | (simp at *; omega)) _) | (with_reducible refine Below.setCell ?_ (by first | omega | (simp; done) | (simp; omega) | (simp at *; omega)) _) | (with_reducible exact Below.refl _ _) | (with_reducible assumption) | (with_reducible refine Below.trans ?_ (Below.mono (by assumption) (by first | omega | (simp; done) | (simp; omega) | (simp at *; omega)))))))
  have b1 : w.heap.size ≤ w1.heap.size := by omega
  clear hbw1
  go_wp2_with ((go_at_call 6; ((with_reducible refine (short_any (some ⟨b0, off, none⟩) P.length cap _ true hx (by omega)).mono ?_)); rintro e w' ⟨rfl, rfl⟩))
  go_wp2_with fail
  refine (refCheckParts_is P (some ⟨b0, off, none⟩) cap 0 _ (by omega) (by exact HS.out.below (by (repeat (first | (with_reducible refine Below.drew ?_) | (with_reducible refine below_drewN ?_ _) | (with_reducible refine Below.alloc ?_ (by first | omega | (simp; done) | (simp; omega) | (simp at *; omega)) _) | (with_reducible refine Below.setCell ?_ (by first | omega | (simp; done) | (simp; omega) | (simp at *; omega)) _) | (with_reducible exact Below.refl _ _) | (with_reducible assumption) | (with_reducible refine Below.trans ?_ (Below.mono (by assumption) (by first | omega | (simp; done) | (simp; omega) | (simp at *; omega)))))))) hc).mono ?_
  rintro e w2 ⟨rfl, hbw2⟩
  have z2 := hbw2.size
  try simp at z2
  have hB2 : Below w.heap.size w w2 := (by (repeat (first | (with_reducible refine Below.drew ?_) | (with_reducible refine below_drewN ?_ _) | (with_reducible refine Below.alloc ?_ (by first | omega | (simp; done) | (simp; omega) | (simp at *; omega)) _) | (with_reducible refine Below.setCell ?_ (by first | omega | (simp; done) | (simp; omega) | (simp at *; omega)) _) | (with_reducible exact Below.refl _ _) | (with_reducible assumption) | (with_reducible refine Below.trans ?_ (Below.mono (by assumption) (by first | omega | (simp; done) | (simp; omega) | (simp at *; omega)))))))
  have b2 : w.heap.size ≤ w2.heap.size := by omega
  clear hbw2
  go_wp2_with fail
  refine (parts_any P (some ⟨b0, off, none⟩) cap _ (by omega) (fun h => by cases h) (by exact HS.out.below (by (repeat (first | (with_reducible refine Below.drew ?_) | (with_reducible refine below_drewN ?_ _) | (with_reducible refine Below.alloc ?_ (by first | omega | (simp; done) | (simp; omega) | (simp at *; omega)) _) | (with_reducible refine Below.setCell ?_ (by first | omega | (simp; done) | (simp; omega) | (simp at *; omega)) _) | (with_reducible exact Below.refl _ _) | (with_reducible assumption) | (with_reducible refine Below.trans ?_ (Below.mono (by assumption) (by first | omega | (simp; done) | (simp; omega) | (simp at *; omega))))))))).mono ?_
  rintro e w3 ⟨b3, cap3, rfl, lt3, hP3, ge3, hbw3⟩
  have HP3 := Lib.hid hP3
  clear hP3
  have z3 := hbw3.size
  try simp at z3
  have hB3 : Below w.heap.size w w3 := (by (repeat (first | (with_reducible refine Below.drew ?_) | (with_reducible refine below_drewN ?_ _) | (with_reducible refine Below.alloc ?_ (by first | omega | (simp; done) | (simp; omega) | (simp at *; omega)) _) | (with_reducible refine Below.setCell ?_ (by first | omega | (simp; done) | (simp; omega) | (simp at *; omega)) _) | (with_reducible exact Below.refl _ _) | (with_reducible assumption) | (with_reducible refine Below.trans ?_ (Below.mono (by assumption) (by first | omega | (simp; done) | (simp; omega) | (simp at *; omega)))))))
  have b3 : w.heap.size ≤ w3.heap.size := by omega
  clear hbw3
  go_wp2_with fail
  refine (Mixed_is P _ _ n0 d0 n1 d1 n2 d2 0 _ (by omega) lt3 HP3.out q0 q1 q2 q3 q4 q5 hE).mono ?_
  rintro e w4 ⟨rfl, hbw4⟩
  have z4 := hbw4.size
  try simp at z4
  have hB4 : Below w.heap.size w w4 := (by (repeat (first | (with_reducible refine Below.drew ?_) | (with_reducible refine below_drewN ?_ _) | (with_reducible refine Below.alloc ?_ (by first | omega | (simp; done) | (simp; omega) | (simp at *; omega)) _) | (with_reducible refine Below.setCell ?_ (by first | omega | (simp; done) | (simp; omega) | (simp at *; omega)) _) | (with_reducible exact Below.refl _ _) | (with_reducible assumption) | (with_reducible refine Below.trans ?_ (Below.mono (by assumption) (by first | omega | (simp; done) | (simp; omega) | (simp at *; omega)))))))
  have b4 : w.heap.size ≤ w4.heap.size := by omega
  clear hbw4
  go_wp2
  go_loopw [5, 8] (fun v i wr => ∃ (k : Nat) (vv : Value), v = vv ∧ k ≤ P.length ∧ i = .int .i64 ((k : Int) - 1) ∧ Hid (wr.ownsRow (w4.heap.size + 3) 37 3 vv (P.length - k) (pcs (P.drop k).reverse)) ∧ Below w.heap.size w wr ∧ w4.heap.size + 3 ≤ wr.heap.size ∧ wr.cell? ⟨w4.heap.size, 0, none⟩ = some (.int .i64 n0) ∧ wr.cell? ⟨w4.heap.size, 1, none⟩ = some (.int .i64 d0) ∧ wr.cell? ⟨w4.heap.size, 2, none⟩ = some (.int .i64 n1) ∧ wr.cell? ⟨w4.heap.size, 3, none⟩ = some (.int .i64 d1) ∧ wr.cell? ⟨w4.heap.size, 4, none⟩ = some (.int .i64 n2) ∧ wr.cell? ⟨w4.heap.size, 5, none⟩ = some (.int .i64 d2) ∧ wr.cell? ⟨w4.heap.size + 1, 0, none⟩ = some (.int .i64 (lowF Part.o (P.drop k))) ∧ wr.cell? ⟨w4.heap.size + 1, 1, none⟩ = some (.int .i64 (lowF Part.h (P.drop k))) ∧ wr.cell? ⟨w4.heap.size + 2, 0, none⟩ = some (.int .i64 (highF Part.o (P.drop k))) ∧ wr.cell? ⟨w4.heap.size + 2, 1, none⟩ = some (.int .i64 (highF Part.h (P.drop k))) ∧ (∀ j, wr.frozen? ⟨w4.heap.size + 1, j, none⟩ = false) ∧ (∀ j, wr.frozen? ⟨w4.heap.size + 2, j, none⟩ = false)) (fun _ i _ => (intOf i + 1).toNat)
  case atStart =>
    refine ⟨P.length, _, rfl, Nat.le_refl _, rfl, ?_, (by (repeat (first | (with_reducible refine Below.drew ?_) | (with_reducible refine below_drewN ?_ _) | (with_reducible refine Below.alloc ?_ (by first | omega | (simp; done) | (simp; omega) | (simp at *; omega)) _) | (with_reducible refine Below.setCell ?_ (by first | omega | (simp; done) | (simp; omega) | (simp at *; omega)) _) | (with_reducible exact Below.refl _ _) | (with_reducible assumption) | (with_reducible refine Below.trans ?_ (Below.mono (by assumption) (by first | omega | (simp; done) | (simp; omega) | (simp at *; omega))))))), by simp, by simp [go_sem, World.cell?_alloc_past, *], by simp [go_sem, World.cell?_alloc_past, *], by simp [go_sem, World.cell?_alloc_past, *], by simp [go_sem, World.cell?_alloc_past, *], by simp [go_sem, World.cell?_alloc_past, *], by simp [go_sem, World.cell?_alloc_past, *], by simp [go_sem, World.cell?_alloc_past, lowF, highF, *], by simp [go_sem, World.cell?_alloc_past, lowF, highF, *], by simp [go_sem, World.cell?_alloc_past, lowF, highF, *], by simp [go_sem, World.cell?_alloc_past, lowF, highF, *], by intro j; simp [go_sem], by intro j; simp [go_sem]⟩
    rw [Nat.sub_self, List.drop_length]; exact World.ownsRow_nil _ _ _ _
  case round =>
    obtain ⟨k, v, rfl, hk, rfl, HO, hB, hsz, x0, x1, x2, x3, x4, x5, l0, l1, g0, g1, fl, fh⟩ := hrel
    rcases k with _ | k
    · skip
      obtain ⟨bq, cq, rfl, ltq, hPq, geq⟩ := exit_own P HO hpos
      have HPq := Lib.hid hPq
      clear hPq HO
      obtain ⟨Q, hQ⟩ : ∃ Q, Hid (P.reverse = Q) := ⟨_, rfl⟩
      rw [hQ.out] at HPq ⊢
      have lQ : Q.length ≤ 12 := by rw [← hQ.out, List.length_reverse]; exact hl
      have hEQ : Hid (mixE Q = 0) := by show _ = _; rw [← hQ.out, mixE_rev hc.out]; exact hE.out
      have hd0 : P.drop 0 = P := rfl
      rw [hd0] at l0 l1 g0 g1
      have Q0 : Hid (mixR Q 0 = n0) := by show _ = _; rw [← hQ.out, mixR_rev hc.out]; exact q0.out
      have Q1 : Hid (mixR Q 1 = d0) := by show _ = _; rw [← hQ.out, mixR_rev hc.out]; exact q1.out
      have Q2 : Hid (mixR Q 2 = n1) := by show _ = _; rw [← hQ.out, mixR_rev hc.out]; exact q2.out
      have Q3 : Hid (mixR Q 3 = d1) := by show _ = _; rw [← hQ.out, mixR_rev hc.out]; exact q3.out
      have Q4 : Hid (mixR Q 4 = n2) := by show _ = _; rw [← hQ.out, mixR_rev hc.out]; exact q4.out
      have Q5 : Hid (mixR Q 5 = d2) := by show _ = _; rw [← hQ.out, mixR_rev hc.out]; exact q5.out
      obtain ⟨lo0, e0⟩ : ∃ x, Hid (lowF Part.o P = x) := ⟨_, rfl⟩
      obtain ⟨lo1, e1⟩ : ∃ x, Hid (lowF Part.h P = x) := ⟨_, rfl⟩
      obtain ⟨hi0, f0⟩ : ∃ x, Hid (highF Part.o P = x) := ⟨_, rfl⟩
      obtain ⟨hi1, f1⟩ : ∃ x, Hid (highF Part.h P = x) := ⟨_, rfl⟩
      rw [e0.out] at l0
      rw [e1.out] at l1
      rw [f0.out] at g0
      rw [f1.out] at g1
      obtain ⟨P0, P1, P2, P3⟩ := FC lo0 lo1 hi0 hi1 e0 e1 f0 f1
      obtain ⟨A0, aa0⟩ : ∃ x, Hid (lo0 * d0 = x) := ⟨_, rfl⟩
      obtain ⟨A1, aa1⟩ : ∃ x, Hid (lo1 * d1 = x) := ⟨_, rfl⟩
      obtain ⟨C0, g0'⟩ : ∃ x, Hid (hi0 * d0 = x) := ⟨_, rfl⟩
      obtain ⟨C1, g1'⟩ : ∃ x, Hid (hi1 * d1 = x) := ⟨_, rfl⟩
      rw [aa0.out, g0'.out] at P0
      rw [aa1.out, g1'.out] at P1
      rw [aa0.out, g0'.out] at P2
      rw [aa1.out, g1'.out] at P3
      obtain ⟨P00, P01⟩ := P0
      obtain ⟨P10, P11⟩ := P1
      obtain ⟨P20, P21, P22, P23⟩ := P2
      obtain ⟨P30, P31, P32, P33⟩ := P3
      have k0 : IntKind.i64.wrap (lo0 * d0) = A0 := by rw [aa0.out]; exact IntWalk.i64_in _ (by omega)
      have k1 : IntKind.i64.wrap (lo1 * d1) = A1 := by rw [aa1.out]; exact IntWalk.i64_in _ (by omega)
      have k2 : IntKind.i64.wrap (hi0 * d0) = C0 := by rw [g0'.out]; exact IntWalk.i64_in _ (by omega)
      have k3 : IntKind.i64.wrap (hi1 * d1) = C1 := by rw [g1'.out]; exact IntWalk.i64_in _ (by omega)
      have k4 : IntKind.i64.wrap (1000 * n0) = 1000 * n0 := IntWalk.i64_in _ (by omega)
      have k5 : IntKind.i64.wrap (1000 * n1) = 1000 * n1 := IntWalk.i64_in _ (by omega)
      have k6 : decide (1000 * n0 < A0) = false := by simp; omega
      have k7 : decide (1000 * n1 < A1) = false := by simp; omega
      have k8 : decide (C0 < 1000 * n0) = false := by simp; omega
      have k9 : decide (C1 < 1000 * n1) = false := by simp; omega
      have kd : IntKind.i64.wrap (d2 - n2) = d2 - n2 := IntWalk.i64_in _ (by omega)
      have gz : ¬ g = 0 := by omega
      have z0 : 0 ≤ d0 := by omega
      have z1 : 0 ≤ d1 := by omega
      have ha3 : d1.tdiv g = a := by rw [Int.tdiv_eq_ediv_of_nonneg z1]; exact ha
      have hb3 : d0.tdiv g = b := by rw [Int.tdiv_eq_ediv_of_nonneg z0]; exact hb
      have ha2 : IntKind.i64.wrap (d1.tdiv g) = a := by rw [ha3]; exact IntWalk.i64_in _ (by omega)
      have hb2 : IntKind.i64.wrap (d0.tdiv g) = b := by rw [hb3]; exact IntWalk.i64_in _ (by omega)
      have ha4 : IntKind.i64.wrap a = a := IntWalk.i64_in _ (by omega)
      have hb4 : IntKind.i64.wrap b = b := IntWalk.i64_in _ (by omega)
      have o5_0 : w4.heap.size < wr.heap.size := by omega
      have n5_0 : wr.heap.size ≠ w4.heap.size := by omega
      have t5_0_1 : w4.heap.size < wr.heap.size + 1 := by omega
      have t5_0_2 : w4.heap.size < wr.heap.size + 1 + 1 := by omega
      have t5_0_3 : w4.heap.size < wr.heap.size + 1 + 1 + 1 := by omega
      have o5_1 : w4.heap.size + 1 < wr.heap.size := by omega
      have n5_1 : wr.heap.size ≠ w4.heap.size + 1 := by omega
      have t5_1_1 : w4.heap.size + 1 < wr.heap.size + 1 := by omega
      have t5_1_2 : w4.heap.size + 1 < wr.heap.size + 1 + 1 := by omega
      have t5_1_3 : w4.heap.size + 1 < wr.heap.size + 1 + 1 + 1 := by omega
      have o5_2 : w4.heap.size + 2 < wr.heap.size := by omega
      have n5_2 : wr.heap.size ≠ w4.heap.size + 2 := by omega
      have t5_2_1 : w4.heap.size + 2 < wr.heap.size + 1 := by omega
      have t5_2_2 : w4.heap.size + 2 < wr.heap.size + 1 + 1 := by omega
      have t5_2_3 : w4.heap.size + 2 < wr.heap.size + 1 + 1 + 1 := by omega
      have b5 : w.heap.size ≤ wr.heap.size := by omega
      go_wp2_with fail
      refine (Mixed_is Q bq cq n0 d0 n1 d1 n2 d2 0 _ (by omega) ltq HPq.out Q0 Q1 Q2 Q3 Q4 Q5 hEQ).mono ?_
      rintro e w6 ⟨rfl, hbw6⟩
      have z6 := hbw6.size
      try simp at z6
      have c6_0 : w6.cell? ⟨w4.heap.size, 0, none⟩ = some (.int .i64 n0) := by rw [(bcell hbw6).1 _ _ (by first | (simp; done) | (simp; omega) | omega)]; simp [go_sem, World.cell?_alloc_past, *]
      have c6_1 : w6.cell? ⟨w4.heap.size, 1, none⟩ = some (.int .i64 d0) := by rw [(bcell hbw6).1 _ _ (by first | (simp; done) | (simp; omega) | omega)]; simp [go_sem, World.cell?_alloc_past, *]
      have c6_2 : w6.cell? ⟨w4.heap.size, 2, none⟩ = some (.int .i64 n1) := by rw [(bcell hbw6).1 _ _ (by first | (simp; done) | (simp; omega) | omega)]; simp [go_sem, World.cell?_alloc_past, *]
      have c6_3 : w6.cell? ⟨w4.heap.size, 3, none⟩ = some (.int .i64 d1) := by rw [(bcell hbw6).1 _ _ (by first | (simp; done) | (simp; omega) | omega)]; simp [go_sem, World.cell?_alloc_past, *]
      have c6_4 : w6.cell? ⟨w4.heap.size, 4, none⟩ = some (.int .i64 n2) := by rw [(bcell hbw6).1 _ _ (by first | (simp; done) | (simp; omega) | omega)]; simp [go_sem, World.cell?_alloc_past, *]
      have c6_5 : w6.cell? ⟨w4.heap.size, 5, none⟩ = some (.int .i64 d2) := by rw [(bcell hbw6).1 _ _ (by first | (simp; done) | (simp; omega) | omega)]; simp [go_sem, World.cell?_alloc_past, *]
      have c6_6 : w6.cell? ⟨w4.heap.size + 1, 0, none⟩ = some (.int .i64 lo0) := by rw [(bcell hbw6).1 _ _ (by first | (simp; done) | (simp; omega) | omega)]; simp [go_sem, World.cell?_alloc_past, *]
      have c6_7 : w6.cell? ⟨w4.heap.size + 1, 1, none⟩ = some (.int .i64 lo1) := by rw [(bcell hbw6).1 _ _ (by first | (simp; done) | (simp; omega) | omega)]; simp [go_sem, World.cell?_alloc_past, *]
      have c6_8 : w6.cell? ⟨w4.heap.size + 2, 0, none⟩ = some (.int .i64 hi0) := by rw [(bcell hbw6).1 _ _ (by first | (simp; done) | (simp; omega) | omega)]; simp [go_sem, World.cell?_alloc_past, *]
      have c6_9 : w6.cell? ⟨w4.heap.size + 2, 1, none⟩ = some (.int .i64 hi1) := by rw [(bcell hbw6).1 _ _ (by first | (simp; done) | (simp; omega) | omega)]; simp [go_sem, World.cell?_alloc_past, *]
      have hB6 : Below w.heap.size w w6 := (by (repeat (first | (with_reducible refine Below.drew ?_) | (with_reducible refine below_drewN ?_ _) | (with_reducible refine Below.alloc ?_ (by first | omega | (simp; done) | (simp; omega) | (simp at *; omega)) _) | (with_reducible refine Below.setCell ?_ (by first | omega | (simp; done) | (simp; omega) | (simp at *; omega)) _) | (with_reducible exact Below.refl _ _) | (with_reducible assumption) | (with_reducible refine Below.trans ?_ (Below.mono (by assumption) (by first | omega | (simp; done) | (simp; omega) | (simp at *; omega)))))))
      clear o5_0 n5_0 t5_0_1 t5_0_2 t5_0_3 o5_1 n5_1 t5_1_1 t5_1_2 t5_1_3 o5_2 n5_2 t5_2_1 t5_2_2 t5_2_3
      have o6_0 : w4.heap.size < w6.heap.size := by omega
      have n6_0 : w6.heap.size ≠ w4.heap.size := by omega
      have t6_0_1 : w4.heap.size < w6.heap.size + 1 := by omega
      have t6_0_2 : w4.heap.size < w6.heap.size + 1 + 1 := by omega
      have t6_0_3 : w4.heap.size < w6.heap.size + 1 + 1 + 1 := by omega
      have o6_1 : w4.heap.size + 1 < w6.heap.size := by omega
      have n6_1 : w6.heap.size ≠ w4.heap.size + 1 := by omega
      have t6_1_1 : w4.heap.size + 1 < w6.heap.size + 1 := by omega
      have t6_1_2 : w4.heap.size + 1 < w6.heap.size + 1 + 1 := by omega
      have t6_1_3 : w4.heap.size + 1 < w6.heap.size + 1 + 1 + 1 := by omega
      have o6_2 : w4.heap.size + 2 < w6.heap.size := by omega
      have n6_2 : w6.heap.size ≠ w4.heap.size + 2 := by omega
      have t6_2_1 : w4.heap.size + 2 < w6.heap.size + 1 := by omega
      have t6_2_2 : w4.heap.size + 2 < w6.heap.size + 1 + 1 := by omega
      have t6_2_3 : w4.heap.size + 2 < w6.heap.size + 1 + 1 + 1 := by omega
      have b6 : w.heap.size ≤ w6.heap.size := by omega
      clear hbw6
      have hEq := eqArrF
      go_wp2
      refine wp_loop_rounds 4 ?_
      rw [rounds_succ]
      go_wp2_with fail
      refine (baseIsSmall_t n0 d0 _ N0 S0 D0 E0).mono ?_
      rintro e w7 ⟨rfl, hbw7⟩
      have z7 := hbw7.size
      try simp at z7
      have c7_0 : w7.cell? ⟨w4.heap.size, 0, none⟩ = some (.int .i64 n0) := by rw [(bcell hbw7).1 _ _ (by first | (simp; done) | (simp; omega) | omega)]; simp [go_sem, World.cell?_alloc_past, *]
      have c7_1 : w7.cell? ⟨w4.heap.size, 1, none⟩ = some (.int .i64 d0) := by rw [(bcell hbw7).1 _ _ (by first | (simp; done) | (simp; omega) | omega)]; simp [go_sem, World.cell?_alloc_past, *]
      have c7_2 : w7.cell? ⟨w4.heap.size, 2, none⟩ = some (.int .i64 n1) := by rw [(bcell hbw7).1 _ _ (by first | (simp; done) | (simp; omega) | omega)]; simp [go_sem, World.cell?_alloc_past, *]
      have c7_3 : w7.cell? ⟨w4.heap.size, 3, none⟩ = some (.int .i64 d1) := by rw [(bcell hbw7).1 _ _ (by first | (simp; done) | (simp; omega) | omega)]; simp [go_sem, World.cell?_alloc_past, *]
      have c7_4 : w7.cell? ⟨w4.heap.size, 4, none⟩ = some (.int .i64 n2) := by rw [(bcell hbw7).1 _ _ (by first | (simp; done) | (simp; omega) | omega)]; simp [go_sem, World.cell?_alloc_past, *]
      have c7_5 : w7.cell? ⟨w4.heap.size, 5, none⟩ = some (.int .i64 d2) := by rw [(bcell hbw7).1 _ _ (by first | (simp; done) | (simp; omega) | omega)]; simp [go_sem, World.cell?_alloc_past, *]
      have c7_6 : w7.cell? ⟨w4.heap.size + 1, 0, none⟩ = some (.int .i64 lo0) := by rw [(bcell hbw7).1 _ _ (by first | (simp; done) | (simp; omega) | omega)]; simp [go_sem, World.cell?_alloc_past, *]
      have c7_7 : w7.cell? ⟨w4.heap.size + 1, 1, none⟩ = some (.int .i64 lo1) := by rw [(bcell hbw7).1 _ _ (by first | (simp; done) | (simp; omega) | omega)]; simp [go_sem, World.cell?_alloc_past, *]
      have c7_8 : w7.cell? ⟨w4.heap.size + 2, 0, none⟩ = some (.int .i64 hi0) := by rw [(bcell hbw7).1 _ _ (by first | (simp; done) | (simp; omega) | omega)]; simp [go_sem, World.cell?_alloc_past, *]
      have c7_9 : w7.cell? ⟨w4.heap.size + 2, 1, none⟩ = some (.int .i64 hi1) := by rw [(bcell hbw7).1 _ _ (by first | (simp; done) | (simp; omega) | omega)]; simp [go_sem, World.cell?_alloc_past, *]
      have hB7 : Below w.heap.size w w7 := (by (repeat (first | (with_reducible refine Below.drew ?_) | (with_reducible refine below_drewN ?_ _) | (with_reducible refine Below.alloc ?_ (by first | omega | (simp; done) | (simp; omega) | (simp at *; omega)) _) | (with_reducible refine Below.setCell ?_ (by first | omega | (simp; done) | (simp; omega) | (simp at *; omega)) _) | (with_reducible exact Below.refl _ _) | (with_reducible assumption) | (with_reducible refine Below.trans ?_ (Below.mono (by assumption) (by first | omega | (simp; done) | (simp; omega) | (simp at *; omega)))))))
      clear c6_0 c6_1 c6_2 c6_3 c6_4 c6_5 c6_6 c6_7 c6_8 c6_9 o6_0 n6_0 t6_0_1 t6_0_2 t6_0_3 o6_1 n6_1 t6_1_1 t6_1_2 t6_1_3 o6_2 n6_2 t6_2_1 t6_2_2 t6_2_3
      have o7_0 : w4.heap.size < w7.heap.size := by omega
      have n7_0 : w7.heap.size ≠ w4.heap.size := by omega
      have t7_0_1 : w4.heap.size < w7.heap.size + 1 := by omega
      have t7_0_2 : w4.heap.size < w7.heap.size + 1 + 1 := by omega
      have t7_0_3 : w4.heap.size < w7.heap.size + 1 + 1 + 1 := by omega
      have o7_1 : w4.heap.size + 1 < w7.heap.size := by omega
      have n7_1 : w7.heap.size ≠ w4.heap.size + 1 := by omega
      have t7_1_1 : w4.heap.size + 1 < w7.heap.size + 1 := by omega
      have t7_1_2 : w4.heap.size + 1 < w7.heap.size + 1 + 1 := by omega
      have t7_1_3 : w4.heap.size + 1 < w7.heap.size + 1 + 1 + 1 := by omega
      have o7_2 : w4.heap.size + 2 < w7.heap.size := by omega
      have n7_2 : w7.heap.size ≠ w4.heap.size + 2 := by omega
      have t7_2_1 : w4.heap.size + 2 < w7.heap.size + 1 := by omega
      have t7_2_2 : w4.heap.size + 2 < w7.heap.size + 1 + 1 := by omega
      have t7_2_3 : w4.heap.size + 2 < w7.heap.size + 1 + 1 + 1 := by omega
      have b7 : w.heap.size ≤ w7.heap.size := by omega
      clear hbw7
      go_wp2
      rw [rounds_succ]
      go_wp2_with fail
      refine (baseIsSmall_t n1 d1 _ N1 S1 D1 E1).mono ?_
      rintro e w8 ⟨rfl, hbw8⟩
      have z8 := hbw8.size
      try simp at z8
      have c8_0 : w8.cell? ⟨w4.heap.size, 0, none⟩ = some (.int .i64 n0) := by rw [(bcell hbw8).1 _ _ (by first | (simp; done) | (simp; omega) | omega)]; simp [go_sem, World.cell?_alloc_past, *]
      have c8_1 : w8.cell? ⟨w4.heap.size, 1, none⟩ = some (.int .i64 d0) := by rw [(bcell hbw8).1 _ _ (by first | (simp; done) | (simp; omega) | omega)]; simp [go_sem, World.cell?_alloc_past, *]
      have c8_2 : w8.cell? ⟨w4.heap.size, 2, none⟩ = some (.int .i64 n1) := by rw [(bcell hbw8).1 _ _ (by first | (simp; done) | (simp; omega) | omega)]; simp [go_sem, World.cell?_alloc_past, *]
      have c8_3 : w8.cell? ⟨w4.heap.size, 3, none⟩ = some (.int .i64 d1) := by rw [(bcell hbw8).1 _ _ (by first | (simp; done) | (simp; omega) | omega)]; simp [go_sem, World.cell?_alloc_past, *]
      have c8_4 : w8.cell? ⟨w4.heap.size, 4, none⟩ = some (.int .i64 n2) := by rw [(bcell hbw8).1 _ _ (by first | (simp; done) | (simp; omega) | omega)]; simp [go_sem, World.cell?_alloc_past, *]
      have c8_5 : w8.cell? ⟨w4.heap.size, 5, none⟩ = some (.int .i64 d2) := by rw [(bcell hbw8).1 _ _ (by first | (simp; done) | (simp; omega) | omega)]; simp [go_sem, World.cell?_alloc_past, *]
      have c8_6 : w8.cell? ⟨w4.heap.size + 1, 0, none⟩ = some (.int .i64 lo0) := by rw [(bcell hbw8).1 _ _ (by first | (simp; done) | (simp; omega) | omega)]; simp [go_sem, World.cell?_alloc_past, *]
      have c8_7 : w8.cell? ⟨w4.heap.size + 1, 1, none⟩ = some (.int .i64 lo1) := by rw [(bcell hbw8).1 _ _ (by first | (simp; done) | (simp; omega) | omega)]; simp [go_sem, World.cell?_alloc_past, *]
      have c8_8 : w8.cell? ⟨w4.heap.size + 2, 0, none⟩ = some (.int .i64 hi0) := by rw [(bcell hbw8).1 _ _ (by first | (simp; done) | (simp; omega) | omega)]; simp [go_sem, World.cell?_alloc_past, *]
      have c8_9 : w8.cell? ⟨w4.heap.size + 2, 1, none⟩ = some (.int .i64 hi1) := by rw [(bcell hbw8).1 _ _ (by first | (simp; done) | (simp; omega) | omega)]; simp [go_sem, World.cell?_alloc_past, *]
      have hB8 : Below w.heap.size w w8 := (by (repeat (first | (with_reducible refine Below.drew ?_) | (with_reducible refine below_drewN ?_ _) | (with_reducible refine Below.alloc ?_ (by first | omega | (simp; done) | (simp; omega) | (simp at *; omega)) _) | (with_reducible refine Below.setCell ?_ (by first | omega | (simp; done) | (simp; omega) | (simp at *; omega)) _) | (with_reducible exact Below.refl _ _) | (with_reducible assumption) | (with_reducible refine Below.trans ?_ (Below.mono (by assumption) (by first | omega | (simp; done) | (simp; omega) | (simp at *; omega)))))))
      clear c7_0 c7_1 c7_2 c7_3 c7_4 c7_5 c7_6 c7_7 c7_8 c7_9 o7_0 n7_0 t7_0_1 t7_0_2 t7_0_3 o7_1 n7_1 t7_1_1 t7_1_2 t7_1_3 o7_2 n7_2 t7_2_1 t7_2_2 t7_2_3
      have o8_0 : w4.heap.size < w8.heap.size := by omega
      have n8_0 : w8.heap.size ≠ w4.heap.size := by omega
      have t8_0_1 : w4.heap.size < w8.heap.size + 1 := by omega
      have t8_0_2 : w4.heap.size < w8.heap.size + 1 + 1 := by omega
      have t8_0_3 : w4.heap.size < w8.heap.size + 1 + 1 + 1 := by omega
      have o8_1 : w4.heap.size + 1 < w8.heap.size := by omega
      have n8_1 : w8.heap.size ≠ w4.heap.size + 1 := by omega
      have t8_1_1 : w4.heap.size + 1 < w8.heap.size + 1 := by omega
      have t8_1_2 : w4.heap.size + 1 < w8.heap.size + 1 + 1 := by omega
      have t8_1_3 : w4.heap.size + 1 < w8.heap.size + 1 + 1 + 1 := by omega
      have o8_2 : w4.heap.size + 2 < w8.heap.size := by omega
      have n8_2 : w8.heap.size ≠ w4.heap.size + 2 := by omega
      have t8_2_1 : w4.heap.size + 2 < w8.heap.size + 1 := by omega
      have t8_2_2 : w4.heap.size + 2 < w8.heap.size + 1 + 1 := by omega
      have t8_2_3 : w4.heap.size + 2 < w8.heap.size + 1 + 1 + 1 := by omega
      have b8 : w.heap.size ≤ w8.heap.size := by omega
      clear hbw8
      go_wp2
      rw [rounds_succ]
      go_wp2_with fail
      refine (baseIsSmall_t n2 d2 _ N2 S2 D2 E2).mono ?_
      rintro e w9 ⟨rfl, hbw9⟩
      have z9 := hbw9.size
      try simp at z9
      have c9_0 : w9.cell? ⟨w4.heap.size, 0, none⟩ = some (.int .i64 n0) := by rw [(bcell hbw9).1 _ _ (by first | (simp; done) | (simp; omega) | omega)]; simp [go_sem, World.cell?_alloc_past, *]
      have c9_1 : w9.cell? ⟨w4.heap.size, 1, none⟩ = some (.int .i64 d0) := by rw [(bcell hbw9).1 _ _ (by first | (simp; done) | (simp; omega) | omega)]; simp [go_sem, World.cell?_alloc_past, *]
      have c9_2 : w9.cell? ⟨w4.heap.size, 2, none⟩ = some (.int .i64 n1) := by rw [(bcell hbw9).1 _ _ (by first | (simp; done) | (simp; omega) | omega)]; simp [go_sem, World.cell?_alloc_past, *]
      have c9_3 : w9.cell? ⟨w4.heap.size, 3, none⟩ = some (.int .i64 d1) := by rw [(bcell hbw9).1 _ _ (by first | (simp; done) | (simp; omega) | omega)]; simp [go_sem, World.cell?_alloc_past, *]
      have c9_4 : w9.cell? ⟨w4.heap.size, 4, none⟩ = some (.int .i64 n2) := by rw [(bcell hbw9).1 _ _ (by first | (simp; done) | (simp; omega) | omega)]; simp [go_sem, World.cell?_alloc_past, *]
      have c9_5 : w9.cell? ⟨w4.heap.size, 5, none⟩ = some (.int .i64 d2) := by rw [(bcell hbw9).1 _ _ (by first | (simp; done) | (simp; omega) | omega)]; simp [go_sem, World.cell?_alloc_past, *]
      have c9_6 : w9.cell? ⟨w4.heap.size + 1, 0, none⟩ = some (.int .i64 lo0) := by rw [(bcell hbw9).1 _ _ (by first | (simp; done) | (simp; omega) | omega)]; simp [go_sem, World.cell?_alloc_past, *]
      have c9_7 : w9.cell? ⟨w4.heap.size + 1, 1, none⟩ = some (.int .i64 lo1) := by rw [(bcell hbw9).1 _ _ (by first | (simp; done) | (simp; omega) | omega)]; simp [go_sem, World.cell?_alloc_past, *]
      have c9_8 : w9.cell? ⟨w4.heap.size + 2, 0, none⟩ = some (.int .i64 hi0) := by rw [(bcell hbw9).1 _ _ (by first | (simp; done) | (simp; omega) | omega)]; simp [go_sem, World.cell?_alloc_past, *]
      have c9_9 : w9.cell? ⟨w4.heap.size + 2, 1, none⟩ = some (.int .i64 hi1) := by rw [(bcell hbw9).1 _ _ (by first | (simp; done) | (simp; omega) | omega)]; simp [go_sem, World.cell?_alloc_past, *]
      have hB9 : Below w.heap.size w w9 := (by (repeat (first | (with_reducible refine Below.drew ?_) | (with_reducible refine below_drewN ?_ _) | (with_reducible refine Below.alloc ?_ (by first | omega | (simp; done) | (simp; omega) | (simp at *; omega)) _) | (with_reducible refine Below.setCell ?_ (by first | omega | (simp; done) | (simp; omega) | (simp at *; omega)) _) | (with_reducible exact Below.refl _ _) | (with_reducible assumption) | (with_reducible refine Below.trans ?_ (Below.mono (by assumption) (by first | omega | (simp; done) | (simp; omega) | (simp at *; omega)))))))
      clear c8_0 c8_1 c8_2 c8_3 c8_4 c8_5 c8_6 c8_7 c8_8 c8_9 o8_0 n8_0 t8_0_1 t8_0_2 t8_0_3 o8_1 n8_1 t8_1_1 t8_1_2 t8_1_3 o8_2 n8_2 t8_2_1 t8_2_2 t8_2_3
      have o9_0 : w4.heap.size < w9.heap.size := by omega
      have n9_0 : w9.heap.size ≠ w4.heap.size := by omega
      have t9_0_1 : w4.heap.size < w9.heap.size + 1 := by omega
      have t9_0_2 : w4.heap.size < w9.heap.size + 1 + 1 := by omega
      have t9_0_3 : w4.heap.size < w9.heap.size + 1 + 1 + 1 := by omega
      have o9_1 : w4.heap.size + 1 < w9.heap.size := by omega
      have n9_1 : w9.heap.size ≠ w4.heap.size + 1 := by omega
      have t9_1_1 : w4.heap.size + 1 < w9.heap.size + 1 := by omega
      have t9_1_2 : w4.heap.size + 1 < w9.heap.size + 1 + 1 := by omega
      have t9_1_3 : w4.heap.size + 1 < w9.heap.size + 1 + 1 + 1 := by omega
      have o9_2 : w4.heap.size + 2 < w9.heap.size := by omega
      have n9_2 : w9.heap.size ≠ w4.heap.size + 2 := by omega
      have t9_2_1 : w4.heap.size + 2 < w9.heap.size + 1 := by omega
      have t9_2_2 : w4.heap.size + 2 < w9.heap.size + 1 + 1 := by omega
      have t9_2_3 : w4.heap.size + 2 < w9.heap.size + 1 + 1 + 1 := by omega
      have b9 : w.heap.size ≤ w9.heap.size := by omega
      clear hbw9
      go_wp2
      rw [rounds_succ]
      go_wp2
      clear hEq
      refine wp_loop_rounds 3 ?_
      rw [rounds_succ]
      go_wp2
      go_big_quiet (fail)
      go_wp2
      rw [rounds_succ]
      go_wp2
      go_big_quiet (fail)
      go_wp2
      rw [rounds_succ]
      go_wp2_with fail
      refine (baseLowest_is (d2 - n2) d2 y z _ (by omega) (by omega) (by omega) (by omega) hy hz).mono ?_
      rintro e w10 ⟨rfl, hbw10⟩
      have z10 := hbw10.size
      try simp at z10
      have c10_0 : w10.cell? ⟨w4.heap.size, 0, none⟩ = some (.int .i64 n0) := by rw [(bcell hbw10).1 _ _ (by first | (simp; done) | (simp; omega) | omega)]; simp [go_sem, World.cell?_alloc_past, *]
      have c10_1 : w10.cell? ⟨w4.heap.size, 1, none⟩ = some (.int .i64 d0) := by rw [(bcell hbw10).1 _ _ (by first | (simp; done) | (simp; omega) | omega)]; simp [go_sem, World.cell?_alloc_past, *]
      have c10_2 : w10.cell? ⟨w4.heap.size, 2, none⟩ = some (.int .i64 n1) := by rw [(bcell hbw10).1 _ _ (by first | (simp; done) | (simp; omega) | omega)]; simp [go_sem, World.cell?_alloc_past, *]
      have c10_3 : w10.cell? ⟨w4.heap.size, 3, none⟩ = some (.int .i64 d1) := by rw [(bcell hbw10).1 _ _ (by first | (simp; done) | (simp; omega) | omega)]; simp [go_sem, World.cell?_alloc_past, *]
      have c10_4 : w10.cell? ⟨w4.heap.size, 4, none⟩ = some (.int .i64 n2) := by rw [(bcell hbw10).1 _ _ (by first | (simp; done) | (simp; omega) | omega)]; simp [go_sem, World.cell?_alloc_past, *]
      have c10_5 : w10.cell? ⟨w4.heap.size, 5, none⟩ = some (.int .i64 d2) := by rw [(bcell hbw10).1 _ _ (by first | (simp; done) | (simp; omega) | omega)]; simp [go_sem, World.cell?_alloc_past, *]
      have hB10 : Below w.heap.size w w10 := (by (repeat (first | (with_reducible refine Below.drew ?_) | (with_reducible refine below_drewN ?_ _) | (with_reducible refine Below.alloc ?_ (by first | omega | (simp; done) | (simp; omega) | (simp at *; omega)) _) | (with_reducible refine Below.setCell ?_ (by first | omega | (simp; done) | (simp; omega) | (simp at *; omega)) _) | (with_reducible exact Below.refl _ _) | (with_reducible assumption) | (with_reducible refine Below.trans ?_ (Below.mono (by assumption) (by first | omega | (simp; done) | (simp; omega) | (simp at *; omega)))))))
      clear c9_0 c9_1 c9_2 c9_3 c9_4 c9_5 c9_6 c9_7 c9_8 c9_9 o9_0 n9_0 t9_0_1 t9_0_2 t9_0_3 o9_1 n9_1 t9_1_1 t9_1_2 t9_1_3 o9_2 n9_2 t9_2_1 t9_2_2 t9_2_3
      have o10_0 : w4.heap.size < w10.heap.size := by omega
      have n10_0 : w10.heap.size ≠ w4.heap.size := by omega
      have t10_0_1 : w4.heap.size < w10.heap.size + 1 := by omega
      have t10_0_2 : w4.heap.size < w10.heap.size + 1 + 1 := by omega
      have t10_0_3 : w4.heap.size < w10.heap.size + 1 + 1 + 1 := by omega
      have b10 : w.heap.size ≤ w10.heap.size := by omega
      clear hbw10
      go_wp2_with (first | (go_at_call 12; ((with_reducible refine (baseWithin_b d0 1 1000000000 true _ hw0).mono ?_)); rintro e w' ⟨rfl, rfl⟩) | (go_at_call 12; ((with_reducible refine (baseWithin_b d1 1 1000000000 true _ hw1).mono ?_)); rintro e w' ⟨rfl, rfl⟩))
      refine wp_region_held_drew (S := (fun w' => w'.cell? ⟨w4.heap.size, 0, none⟩ = some (.int .i64 n0) ∧ w'.cell? ⟨w4.heap.size, 1, none⟩ = some (.int .i64 d0) ∧ w'.cell? ⟨w4.heap.size, 2, none⟩ = some (.int .i64 n1) ∧ w'.cell? ⟨w4.heap.size, 3, none⟩ = some (.int .i64 d1) ∧ w'.cell? ⟨w4.heap.size, 4, none⟩ = some (.int .i64 n2) ∧ w'.cell? ⟨w4.heap.size, 5, none⟩ = some (.int .i64 d2) ∧ w'.cell? ⟨w10.heap.size, 0, none⟩ = some (.int .i64 y) ∧ w'.cell? ⟨w10.heap.size, 1, none⟩ = some (.int .i64 z))) (by kernel_rfl) (by simp [go_sem, World.cell?_alloc_past, *]) (fun hHeld => ?_)
      refine wpAnyH_take (i := 0) (oi := ⟨some 175, _, _, _, _, _⟩) (v := ?_) rfl (by kernel_rfl) (by kernel_rfl) (by kernel_rfl) (fun _ _ _ h => h) (Or.inl ⟨by kernel_rfl, ?_⟩) (by assumption) ?_
      rotate_left
      · (intro w hSw; (try dsimp only at hSw); go_simp; all_goals with_reducible rfl)
      try simp only [Act.put, List.setIfInBounds_toArray, List.set_cons_zero, List.set_cons_succ]
      refine wpAnyH_take (i := 1) (oi := ⟨some 176, _, _, _, _, _⟩) (v := ?_) rfl (by kernel_rfl) (by kernel_rfl) (by kernel_rfl) (fun _ _ _ h => h) (Or.inl ⟨by kernel_rfl, ?_⟩) (by assumption) ?_
      rotate_left
      · (intro w hSw; (try dsimp only at hSw); go_simp; all_goals with_reducible rfl)
      try simp only [Act.put, List.setIfInBounds_toArray, List.set_cons_zero, List.set_cons_succ]
      refine wpAnyH_take (i := 2) (oi := ⟨some 177, _, _, _, _, _⟩) (v := ?_) rfl (by kernel_rfl) (by kernel_rfl) (by kernel_rfl) (fun _ _ _ h => h) (Or.inl ⟨by kernel_rfl, ?_⟩) (by assumption) ?_
      rotate_left
      · (intro w hSw; (try dsimp only at hSw); go_simp; all_goals with_reducible rfl)
      try simp only [Act.put, List.setIfInBounds_toArray, List.set_cons_zero, List.set_cons_succ]
      refine wpAnyH_take (i := 3) (oi := ⟨some 178, _, _, _, _, _⟩) (v := ?_) rfl (by kernel_rfl) (by kernel_rfl) (by kernel_rfl) (fun _ _ _ h => h) (Or.inl ⟨by kernel_rfl, ?_⟩) (by assumption) ?_
      rotate_left
      · (intro w hSw; (try dsimp only at hSw); go_simp; all_goals with_reducible rfl)
      try simp only [Act.put, List.setIfInBounds_toArray, List.set_cons_zero, List.set_cons_succ]
      refine wpAnyH_take (i := 4) (oi := ⟨some 179, _, _, _, _, _⟩) (v := ?_) rfl (by kernel_rfl) (by kernel_rfl) (by kernel_rfl) (fun _ _ _ h => h) (Or.inl ⟨by kernel_rfl, ?_⟩) (by assumption) ?_
      rotate_left
      · (intro w hSw; (try dsimp only at hSw); go_simp; all_goals with_reducible rfl)
      try simp only [Act.put, List.setIfInBounds_toArray, List.set_cons_zero, List.set_cons_succ]
      refine wpAnyH_take (i := 5) (oi := ⟨some 180, _, _, _, _, _⟩) (v := ?_) rfl (by kernel_rfl) (by kernel_rfl) (by kernel_rfl) (fun _ _ _ h => h) (Or.inl ⟨by kernel_rfl, ?_⟩) (by assumption) ?_
      rotate_left
      · (intro w hSw; (try dsimp only at hSw); go_simp; all_goals with_reducible rfl)
      try simp only [Act.put, List.setIfInBounds_toArray, List.set_cons_zero, List.set_cons_succ]
      refine wpAnyH_take (i := 6) (oi := ⟨some 181, _, _, _, _, _⟩) (v := ?_) rfl (by kernel_rfl) (by kernel_rfl) (by kernel_rfl) (fun _ _ _ h => h) (Or.inl ⟨by kernel_rfl, ?_⟩) (by assumption) ?_
      rotate_left
      · (intro w hSw; (try dsimp only at hSw); go_simp; all_goals with_reducible rfl)
      try simp only [Act.put, List.setIfInBounds_toArray, List.set_cons_zero, List.set_cons_succ]
      refine wpAnyH_take (i := 7) (oi := ⟨some 182, _, _, _, _, _⟩) (v := ?_) rfl (by kernel_rfl) (by kernel_rfl) (by kernel_rfl) (fun _ _ _ h => h) (Or.inl ⟨by kernel_rfl, ?_⟩) (by assumption) ?_
      rotate_left
      · (intro w hSw; (try dsimp only at hSw); go_simp; all_goals with_reducible rfl)
      try simp only [Act.put, List.setIfInBounds_toArray, List.set_cons_zero, List.set_cons_succ]
      refine wpAnyH_take (i := 8) (oi := ⟨some 183, _, _, _, _, _⟩) (v := ?_) rfl (by kernel_rfl) (by kernel_rfl) (by kernel_rfl) (fun _ _ _ h => h) (Or.inl ⟨by kernel_rfl, ?_⟩) (by assumption) ?_
      rotate_left
      · (intro w hSw; (try dsimp only at hSw); go_simp; all_goals with_reducible rfl)
      try simp only [Act.put, List.setIfInBounds_toArray, List.set_cons_zero, List.set_cons_succ]
      refine wpAnyH_take (i := 9) (oi := ⟨some 184, _, _, _, _, _⟩) (v := ?_) rfl (by kernel_rfl) (by kernel_rfl) (by kernel_rfl) (fun _ _ _ h => h) (Or.inl ⟨by kernel_rfl, ?_⟩) (by assumption) ?_
      rotate_left
      · (intro w hSw; (try dsimp only at hSw); go_simp; all_goals with_reducible rfl)
      try simp only [Act.put, List.setIfInBounds_toArray, List.set_cons_zero, List.set_cons_succ]
      refine wpAnyH_take (i := 10) (oi := ⟨some 185, _, _, _, _, _⟩) (v := ?_) rfl (by kernel_rfl) (by kernel_rfl) (by kernel_rfl) (fun _ _ _ h => h) (Or.inl ⟨by kernel_rfl, ?_⟩) (by assumption) ?_
      rotate_left
      · (intro w hSw; (try dsimp only at hSw); go_simp; all_goals with_reducible rfl)
      try simp only [Act.put, List.setIfInBounds_toArray, List.set_cons_zero, List.set_cons_succ]
      refine wpAnyH_take (i := 11) (oi := ⟨some 186, _, _, _, _, _⟩) (v := ?_) rfl (by kernel_rfl) (by kernel_rfl) (by kernel_rfl) (fun _ _ _ h => h) (Or.inl ⟨by kernel_rfl, ?_⟩) (by assumption) ?_
      rotate_left
      · (intro w hSw; (try dsimp only at hSw); go_simp; all_goals with_reducible rfl)
      try simp only [Act.put, List.setIfInBounds_toArray, List.set_cons_zero, List.set_cons_succ]
      refine wpAnyH_take (i := 15) (oi := ⟨some 190, _, _, _, _, _⟩) (v := ?_) rfl (by kernel_rfl) (by kernel_rfl) (by kernel_rfl) (fun _ _ _ h => h) (Or.inl ⟨by kernel_rfl, ?_⟩) (by assumption) ?_
      rotate_left
      · (intro w hSw; (try dsimp only at hSw); go_simp; all_goals with_reducible rfl)
      try simp only [Act.put, List.setIfInBounds_toArray, List.set_cons_zero, List.set_cons_succ]
      refine wpAnyH_take (i := 16) (oi := ⟨some 191, _, _, _, _, _⟩) (v := ?_) rfl (by kernel_rfl) (by kernel_rfl) (by kernel_rfl) (fun _ _ _ h => h) (Or.inl ⟨by kernel_rfl, ?_⟩) (by assumption) ?_
      rotate_left
      · (intro w hSw; (try dsimp only at hSw); go_simp; all_goals with_reducible rfl)
      try simp only [Act.put, List.setIfInBounds_toArray, List.set_cons_zero, List.set_cons_succ]
      refine wpAnyH_take (i := 17) (oi := ⟨some 192, _, _, _, _, _⟩) (v := ?_) rfl (by kernel_rfl) (by kernel_rfl) (by kernel_rfl) (fun _ _ _ h => h) (Or.inl ⟨by kernel_rfl, ?_⟩) (by assumption) ?_
      rotate_left
      · (intro w hSw; (try dsimp only at hSw); go_simp; all_goals with_reducible rfl)
      try simp only [Act.put, List.setIfInBounds_toArray, List.set_cons_zero, List.set_cons_succ]
      refine wpAnyH_take (i := 18) (oi := ⟨some 193, _, _, _, _, _⟩) (v := ?_) rfl (by kernel_rfl) (by kernel_rfl) (by kernel_rfl) (fun _ _ _ h => h) (Or.inl ⟨by kernel_rfl, ?_⟩) (by assumption) ?_
      rotate_left
      · (intro w hSw; (try dsimp only at hSw); go_simp; all_goals with_reducible rfl)
      try simp only [Act.put, List.setIfInBounds_toArray, List.set_cons_zero, List.set_cons_succ]
      refine wpAnyH_take (i := 19) (oi := ⟨some 194, _, _, _, _, _⟩) (v := ?_) rfl (by kernel_rfl) (by kernel_rfl) (by kernel_rfl) (fun _ _ _ h => h) (Or.inl ⟨by kernel_rfl, ?_⟩) (by assumption) ?_
      rotate_left
      · (intro w hSw; (try dsimp only at hSw); go_simp; all_goals with_reducible rfl)
      try simp only [Act.put, List.setIfInBounds_toArray, List.set_cons_zero, List.set_cons_succ]
      refine wpAnyH_take (i := 20) (oi := ⟨some 195, _, _, _, _, _⟩) (v := ?_) rfl (by kernel_rfl) (by kernel_rfl) (by kernel_rfl) (fun _ _ _ h => h) (Or.inl ⟨by kernel_rfl, ?_⟩) (by assumption) ?_
      rotate_left
      · (intro w hSw; (try dsimp only at hSw); go_simp; all_goals with_reducible rfl)
      try simp only [Act.put, List.setIfInBounds_toArray, List.set_cons_zero, List.set_cons_succ]
      refine wpAnyH_take (i := 21) (oi := ⟨some 196, _, _, _, _, _⟩) (v := ?_) rfl (by kernel_rfl) (by kernel_rfl) (by kernel_rfl) (fun _ _ _ h => h) (Or.inl ⟨by kernel_rfl, ?_⟩) (by assumption) ?_
      rotate_left
      · (intro w hSw; (try dsimp only at hSw); go_simp; all_goals with_reducible rfl)
      try simp only [Act.put, List.setIfInBounds_toArray, List.set_cons_zero, List.set_cons_succ]
      refine wpAnyH_take (i := 22) (oi := ⟨some 197, _, _, _, _, _⟩) (v := ?_) rfl (by kernel_rfl) (by kernel_rfl) (by kernel_rfl) (fun _ _ _ h => h) (Or.inl ⟨by kernel_rfl, ?_⟩) (by assumption) ?_
      rotate_left
      · (intro w hSw; (try dsimp only at hSw); go_simp; all_goals with_reducible rfl)
      try simp only [Act.put, List.setIfInBounds_toArray, List.set_cons_zero, List.set_cons_succ]
      refine wpAnyH_take (i := 23) (oi := ⟨some 198, _, _, _, _, _⟩) (v := ?_) rfl (by kernel_rfl) (by kernel_rfl) (by kernel_rfl) (fun _ _ _ h => h) (Or.inl ⟨by kernel_rfl, ?_⟩) (by assumption) ?_
      rotate_left
      · (intro w hSw; (try dsimp only at hSw); go_simp; all_goals with_reducible rfl)
      try simp only [Act.put, List.setIfInBounds_toArray, List.set_cons_zero, List.set_cons_succ]
      refine wpAnyH_take (i := 24) (oi := ⟨some 199, _, _, _, _, _⟩) (v := ?_) rfl (by kernel_rfl) (by kernel_rfl) (by kernel_rfl) (fun _ _ _ h => h) (Or.inl ⟨by kernel_rfl, ?_⟩) (by assumption) ?_
      rotate_left
      · (intro w hSw; (try dsimp only at hSw); go_simp; all_goals with_reducible rfl)
      try simp only [Act.put, List.setIfInBounds_toArray, List.set_cons_zero, List.set_cons_succ]
      refine wpAnyH_take (i := 25) (oi := ⟨some 200, _, _, _, _, _⟩) (v := ?_) rfl (by kernel_rfl) (by kernel_rfl) (by kernel_rfl) (fun _ _ _ h => h) (Or.inl ⟨by kernel_rfl, ?_⟩) (by assumption) ?_
      rotate_left
      · (intro w hSw; (try dsimp only at hSw); go_simp; all_goals with_reducible rfl)
      try simp only [Act.put, List.setIfInBounds_toArray, List.set_cons_zero, List.set_cons_succ]
      refine wpAnyH_take (i := 26) (oi := ⟨some 201, _, _, _, _, _⟩) (v := ?_) rfl (by kernel_rfl) (by kernel_rfl) (by kernel_rfl) (fun _ _ _ h => h) (Or.inl ⟨by kernel_rfl, ?_⟩) (by assumption) ?_
      rotate_left
      · (intro w hSw; (try dsimp only at hSw); go_simp; all_goals with_reducible rfl)
      try simp only [Act.put, List.setIfInBounds_toArray, List.set_cons_zero, List.set_cons_succ]
      refine wpAnyH_take (i := 31) (oi := ⟨some 206, _, _, _, _, _⟩) (v := ?_) rfl (by kernel_rfl) (by kernel_rfl) (by kernel_rfl) (fun _ _ _ h => h) (Or.inl ⟨by kernel_rfl, ?_⟩) (by assumption) ?_
      rotate_left
      · (intro w hSw; (try dsimp only at hSw); go_simp; all_goals with_reducible rfl)
      try simp only [Act.put, List.setIfInBounds_toArray, List.set_cons_zero, List.set_cons_succ]
      refine wpAnyH_take (i := 32) (oi := ⟨some 207, _, _, _, _, _⟩) (v := ?_) rfl (by kernel_rfl) (by kernel_rfl) (by kernel_rfl) (fun _ _ _ h => h) (Or.inl ⟨by kernel_rfl, ?_⟩) (by assumption) ?_
      rotate_left
      · (intro w hSw; (try dsimp only at hSw); go_simp; all_goals with_reducible rfl)
      try simp only [Act.put, List.setIfInBounds_toArray, List.set_cons_zero, List.set_cons_succ]
      refine wpAnyH_take (i := 33) (oi := ⟨some 208, _, _, _, _, _⟩) (v := ?_) rfl (by kernel_rfl) (by kernel_rfl) (by kernel_rfl) (fun _ _ _ h => h) (Or.inl ⟨by kernel_rfl, ?_⟩) (by assumption) ?_
      rotate_left
      · (intro w hSw; (try dsimp only at hSw); go_simp; all_goals with_reducible rfl)
      try simp only [Act.put, List.setIfInBounds_toArray, List.set_cons_zero, List.set_cons_succ]
      refine wpAnyH_take (i := 34) (oi := ⟨some 209, _, _, _, _, _⟩) (v := ?_) rfl (by kernel_rfl) (by kernel_rfl) (by kernel_rfl) (fun _ _ _ h => h) (Or.inl ⟨by kernel_rfl, ?_⟩) (by assumption) ?_
      rotate_left
      · (intro w hSw; (try dsimp only at hSw); go_simp; all_goals with_reducible rfl)
      try simp only [Act.put, List.setIfInBounds_toArray, List.set_cons_zero, List.set_cons_succ]
      refine wpAnyH_take (i := 35) (oi := ⟨some 210, _, _, _, _, _⟩) (v := ?_) rfl (by kernel_rfl) (by kernel_rfl) (by kernel_rfl) (fun _ _ _ h => h) (Or.inl ⟨by kernel_rfl, ?_⟩) (by assumption) ?_
      rotate_left
      · (intro w hSw; (try dsimp only at hSw); go_simp; all_goals with_reducible rfl)
      try simp only [Act.put, List.setIfInBounds_toArray, List.set_cons_zero, List.set_cons_succ]
      refine wpAnyH_take (i := 36) (oi := ⟨some 211, _, _, _, _, _⟩) (v := ?_) rfl (by kernel_rfl) (by kernel_rfl) (by kernel_rfl) (fun _ _ _ h => h) (Or.inl ⟨by kernel_rfl, ?_⟩) (by assumption) ?_
      rotate_left
      · (intro w hSw; (try dsimp only at hSw); go_simp; all_goals with_reducible rfl)
      try simp only [Act.put, List.setIfInBounds_toArray, List.set_cons_zero, List.set_cons_succ]
      refine wpAnyH_take (i := 37) (oi := ⟨some 212, _, _, _, _, _⟩) (v := ?_) rfl (by kernel_rfl) (by kernel_rfl) (by kernel_rfl) (fun _ _ _ h => h) (Or.inl ⟨by kernel_rfl, ?_⟩) (by assumption) ?_
      rotate_left
      · (intro w hSw; (try dsimp only at hSw); go_simp; all_goals with_reducible rfl)
      try simp only [Act.put, List.setIfInBounds_toArray, List.set_cons_zero, List.set_cons_succ]
      refine wpAnyH_take (i := 38) (oi := ⟨some 213, _, _, _, _, _⟩) (v := ?_) rfl (by kernel_rfl) (by kernel_rfl) (by kernel_rfl) (fun _ _ _ h => h) (Or.inl ⟨by kernel_rfl, ?_⟩) (by assumption) ?_
      rotate_left
      · (intro w hSw; (try dsimp only at hSw); go_simp; all_goals with_reducible rfl)
      try simp only [Act.put, List.setIfInBounds_toArray, List.set_cons_zero, List.set_cons_succ]
      refine wpAnyH_take (i := 39) (oi := ⟨some 214, _, _, _, _, _⟩) (v := ?_) rfl (by kernel_rfl) (by kernel_rfl) (by kernel_rfl) (fun _ _ _ h => h) (Or.inl ⟨by kernel_rfl, ?_⟩) (by assumption) ?_
      rotate_left
      · (intro w hSw; (try dsimp only at hSw); go_simp; all_goals with_reducible rfl)
      try simp only [Act.put, List.setIfInBounds_toArray, List.set_cons_zero, List.set_cons_succ]
      refine wpAnyH_take (i := 42) (oi := ⟨some 217, _, _, _, _, _⟩) (v := ?_) rfl (by kernel_rfl) (by kernel_rfl) (by kernel_rfl) (fun _ _ _ h => h) (Or.inl ⟨by kernel_rfl, ?_⟩) (by assumption) ?_
      rotate_left
      · (intro w hSw; (try dsimp only at hSw); go_simp; all_goals with_reducible rfl)
      try simp only [Act.put, List.setIfInBounds_toArray, List.set_cons_zero, List.set_cons_succ]
      refine wpAnyH_take (i := 43) (oi := ⟨some 218, _, _, _, _, _⟩) (v := ?_) rfl (by kernel_rfl) (by kernel_rfl) (by kernel_rfl) (fun _ _ _ h => h) (Or.inl ⟨by kernel_rfl, ?_⟩) (by assumption) ?_
      rotate_left
      · (intro w hSw; (try dsimp only at hSw); go_simp; all_goals with_reducible rfl)
      try simp only [Act.put, List.setIfInBounds_toArray, List.set_cons_zero, List.set_cons_succ]
      refine wpAnyH_take (i := 44) (oi := ⟨some 219, _, _, _, _, _⟩) (v := ?_) rfl (by kernel_rfl) (by kernel_rfl) (by kernel_rfl) (fun _ _ _ h => h) (Or.inl ⟨by kernel_rfl, ?_⟩) (by assumption) ?_
      rotate_left
      · (intro w hSw; (try dsimp only at hSw); go_simp; all_goals with_reducible rfl)
      try simp only [Act.put, List.setIfInBounds_toArray, List.set_cons_zero, List.set_cons_succ]
      refine wpAnyH_ready (rs := [12, 47]) (by kernel_rfl) (by simp) ?_
      refine AllReadyH.cons rfl (fun K hK => ?_) (AllReadyH.cons rfl (fun K hK => ?_) (AllReadyH.nil))
      · skip
        go_simp
        go_at_call 13
        refine (baseGcd_is d0 d1 g _ (by omega) (by omega) (by omega) (by omega) hg).mono ?_
        rintro e v1 ⟨rfl, hbv1⟩
        have zv1 := hbv1.size
        try simp at zv1
        have yv100 : v1.cell? ⟨w4.heap.size, 0, none⟩ = some (.int .i64 n0) := by rw [(bcell hbv1).1 _ _ (by first | (simp; done) | (simp; omega) | omega)]; simp [go_sem, World.cell?_alloc_past, *]
        have yv101 : v1.cell? ⟨w4.heap.size, 1, none⟩ = some (.int .i64 d0) := by rw [(bcell hbv1).1 _ _ (by first | (simp; done) | (simp; omega) | omega)]; simp [go_sem, World.cell?_alloc_past, *]
        have yv102 : v1.cell? ⟨w4.heap.size, 2, none⟩ = some (.int .i64 n1) := by rw [(bcell hbv1).1 _ _ (by first | (simp; done) | (simp; omega) | omega)]; simp [go_sem, World.cell?_alloc_past, *]
        have yv103 : v1.cell? ⟨w4.heap.size, 3, none⟩ = some (.int .i64 d1) := by rw [(bcell hbv1).1 _ _ (by first | (simp; done) | (simp; omega) | omega)]; simp [go_sem, World.cell?_alloc_past, *]
        have yv104 : v1.cell? ⟨w4.heap.size, 4, none⟩ = some (.int .i64 n2) := by rw [(bcell hbv1).1 _ _ (by first | (simp; done) | (simp; omega) | omega)]; simp [go_sem, World.cell?_alloc_past, *]
        have yv105 : v1.cell? ⟨w4.heap.size, 5, none⟩ = some (.int .i64 d2) := by rw [(bcell hbv1).1 _ _ (by first | (simp; done) | (simp; omega) | omega)]; simp [go_sem, World.cell?_alloc_past, *]
        have ov10 : w4.heap.size < v1.heap.size := by omega
        have nv10 : v1.heap.size ≠ w4.heap.size := by omega
        have mv10 : ¬ v1.heap.size = w4.heap.size := by omega
        have kv10 : ¬ w4.heap.size = v1.heap.size := by omega
        have tv10 : w4.heap.size < v1.heap.size + 1 := by omega
        have yv110 : v1.cell? ⟨w10.heap.size, 0, none⟩ = some (.int .i64 y) := by rw [(bcell hbv1).1 _ _ (by first | (simp; done) | (simp; omega) | omega)]; simp [go_sem, World.cell?_alloc_past, *]
        have yv111 : v1.cell? ⟨w10.heap.size, 1, none⟩ = some (.int .i64 z) := by rw [(bcell hbv1).1 _ _ (by first | (simp; done) | (simp; omega) | omega)]; simp [go_sem, World.cell?_alloc_past, *]
        have ov11 : w10.heap.size < v1.heap.size := by omega
        have nv11 : v1.heap.size ≠ w10.heap.size := by omega
        have mv11 : ¬ v1.heap.size = w10.heap.size := by omega
        have kv11 : ¬ w10.heap.size = v1.heap.size := by omega
        have tv11 : w10.heap.size < v1.heap.size + 1 := by omega
        have hBv1 : Below w.heap.size w v1 := (by (repeat (first | (with_reducible refine Below.drew ?_) | (with_reducible refine below_drewN ?_ _) | (with_reducible refine Below.alloc ?_ (by first | omega | (simp; done) | (simp; omega) | (simp at *; omega)) _) | (with_reducible refine Below.setCell ?_ (by first | omega | (simp; done) | (simp; omega) | (simp at *; omega)) _) | (with_reducible exact Below.refl _ _) | (with_reducible assumption) | (with_reducible refine Below.trans ?_ (Below.mono (by assumption) (by first | omega | (simp; done) | (simp; omega) | (simp at *; omega)))))))
        have wbv1 : w.heap.size ≤ v1.heap.size := by omega
        clear hbv1
        go_wp2_with fail
        refine hK.out _ _ (by simp [go_sem, World.cell?_alloc_past, *]) (fun hHeld => ?_)
        clear hK K
        try simp only [Act.put, List.setIfInBounds_toArray, List.set_cons_zero, List.set_cons_succ]
        refine wpAnyH_take (i := 13) (oi := ⟨some 188, _, _, _, _, _⟩) (v := ?_) rfl (by kernel_rfl) (by kernel_rfl) (by kernel_rfl) (fun _ _ _ h => h) (Or.inl ⟨by kernel_rfl, ?_⟩) (by assumption) ?_
        rotate_left
        · (intro w hSw; (try dsimp only at hSw); go_simp; all_goals with_reducible rfl)
        try simp only [Act.put, List.setIfInBounds_toArray, List.set_cons_zero, List.set_cons_succ]
        refine wpAnyH_take (i := 14) (oi := ⟨some 189, _, _, _, _, _⟩) (v := ?_) rfl (by kernel_rfl) (by kernel_rfl) (by kernel_rfl) (fun _ _ _ h => h) (Or.inl ⟨by kernel_rfl, ?_⟩) (by assumption) ?_
        rotate_left
        · (intro w hSw; (try dsimp only at hSw); go_simp; all_goals with_reducible rfl)
        try simp only [Act.put, List.setIfInBounds_toArray, List.set_cons_zero, List.set_cons_succ]
        refine wpAnyH_ready (rs := [27, 47]) (by kernel_rfl) (by simp) ?_
        refine AllReadyH.cons rfl (fun K hK => ?_) (AllReadyH.cons rfl (fun K hK => ?_) (AllReadyH.nil))
        · skip
          go_simp
          go_at_call 13
          refine (baseGcd_is d0 d1 g _ (by omega) (by omega) (by omega) (by omega) hg).mono ?_
          rintro e v2 ⟨rfl, hbv2⟩
          have zv2 := hbv2.size
          try simp at zv2
          have yv200 : v2.cell? ⟨w4.heap.size, 0, none⟩ = some (.int .i64 n0) := by rw [(bcell hbv2).1 _ _ (by first | (simp; done) | (simp; omega) | omega)]; simp [go_sem, World.cell?_alloc_past, *]
          have yv201 : v2.cell? ⟨w4.heap.size, 1, none⟩ = some (.int .i64 d0) := by rw [(bcell hbv2).1 _ _ (by first | (simp; done) | (simp; omega) | omega)]; simp [go_sem, World.cell?_alloc_past, *]
          have yv202 : v2.cell? ⟨w4.heap.size, 2, none⟩ = some (.int .i64 n1) := by rw [(bcell hbv2).1 _ _ (by first | (simp; done) | (simp; omega) | omega)]; simp [go_sem, World.cell?_alloc_past, *]
          have yv203 : v2.cell? ⟨w4.heap.size, 3, none⟩ = some (.int .i64 d1) := by rw [(bcell hbv2).1 _ _ (by first | (simp; done) | (simp; omega) | omega)]; simp [go_sem, World.cell?_alloc_past, *]
          have yv204 : v2.cell? ⟨w4.heap.size, 4, none⟩ = some (.int .i64 n2) := by rw [(bcell hbv2).1 _ _ (by first | (simp; done) | (simp; omega) | omega)]; simp [go_sem, World.cell?_alloc_past, *]
          have yv205 : v2.cell? ⟨w4.heap.size, 5, none⟩ = some (.int .i64 d2) := by rw [(bcell hbv2).1 _ _ (by first | (simp; done) | (simp; omega) | omega)]; simp [go_sem, World.cell?_alloc_past, *]
          have ov20 : w4.heap.size < v2.heap.size := by omega
          have nv20 : v2.heap.size ≠ w4.heap.size := by omega
          have mv20 : ¬ v2.heap.size = w4.heap.size := by omega
          have kv20 : ¬ w4.heap.size = v2.heap.size := by omega
          have tv20 : w4.heap.size < v2.heap.size + 1 := by omega
          have yv210 : v2.cell? ⟨w10.heap.size, 0, none⟩ = some (.int .i64 y) := by rw [(bcell hbv2).1 _ _ (by first | (simp; done) | (simp; omega) | omega)]; simp [go_sem, World.cell?_alloc_past, *]
          have yv211 : v2.cell? ⟨w10.heap.size, 1, none⟩ = some (.int .i64 z) := by rw [(bcell hbv2).1 _ _ (by first | (simp; done) | (simp; omega) | omega)]; simp [go_sem, World.cell?_alloc_past, *]
          have ov21 : w10.heap.size < v2.heap.size := by omega
          have nv21 : v2.heap.size ≠ w10.heap.size := by omega
          have mv21 : ¬ v2.heap.size = w10.heap.size := by omega
          have kv21 : ¬ w10.heap.size = v2.heap.size := by omega
          have tv21 : w10.heap.size < v2.heap.size + 1 := by omega
          have hBv2 : Below w.heap.size w v2 := (by (repeat (first | (with_reducible refine Below.drew ?_) | (with_reducible refine below_drewN ?_ _) | (with_reducible refine Below.alloc ?_ (by first | omega | (simp; done) | (simp; omega) | (simp at *; omega)) _) | (with_reducible refine Below.setCell ?_ (by first | omega | (simp; done) | (simp; omega) | (simp at *; omega)) _) | (with_reducible exact Below.refl _ _) | (with_reducible assumption) | (with_reducible refine Below.trans ?_ (Below.mono (by assumption) (by first | omega | (simp; done) | (simp; omega) | (simp at *; omega)))))))
          have wbv2 : w.heap.size ≤ v2.heap.size := by omega
          clear hbv2
          go_wp2_with fail
          refine hK.out _ _ (by simp [go_sem, World.cell?_alloc_past, *]) (fun hHeld => ?_)
          clear hK K
          try simp only [Act.put, List.setIfInBounds_toArray, List.set_cons_zero, List.set_cons_succ]
          refine wpAnyH_take (i := 28) (oi := ⟨some 203, _, _, _, _, _⟩) (v := ?_) rfl (by kernel_rfl) (by kernel_rfl) (by kernel_rfl) (fun _ _ _ h => h) (Or.inl ⟨by kernel_rfl, ?_⟩) (by assumption) ?_
          rotate_left
          · (intro w hSw; (try dsimp only at hSw); go_simp; all_goals with_reducible rfl)
          try simp only [Act.put, List.setIfInBounds_toArray, List.set_cons_zero, List.set_cons_succ]
          refine wpAnyH_take (i := 29) (oi := ⟨some 204, _, _, _, _, _⟩) (v := ?_) rfl (by kernel_rfl) (by kernel_rfl) (by kernel_rfl) (fun _ _ _ h => h) (Or.inl ⟨by kernel_rfl, ?_⟩) (by assumption) ?_
          rotate_left
          · (intro w hSw; (try dsimp only at hSw); go_simp; all_goals with_reducible rfl)
          try simp only [Act.put, List.setIfInBounds_toArray, List.set_cons_zero, List.set_cons_succ]
          refine wpAnyH_take (i := 30) (oi := ⟨some 205, _, _, _, _, _⟩) (v := ?_) rfl (by kernel_rfl) (by kernel_rfl) (by kernel_rfl) (fun _ _ _ h => h) (Or.inl ⟨by kernel_rfl, ?_⟩) (by assumption) ?_
          rotate_left
          · (intro w hSw; (try dsimp only at hSw); go_simp; all_goals with_reducible rfl)
          try simp only [Act.put, List.setIfInBounds_toArray, List.set_cons_zero, List.set_cons_succ]
          refine wpAnyH_ready (rs := [40, 47]) (by kernel_rfl) (by simp) ?_
          refine AllReadyH.cons rfl (fun K hK => ?_) (AllReadyH.cons rfl (fun K hK => ?_) (AllReadyH.nil))
          · skip
            go_simp
            go_at_call 13
            refine (baseGcd_is d0 d1 g _ (by omega) (by omega) (by omega) (by omega) hg).mono ?_
            rintro e v3 ⟨rfl, hbv3⟩
            have zv3 := hbv3.size
            try simp at zv3
            have yv300 : v3.cell? ⟨w4.heap.size, 0, none⟩ = some (.int .i64 n0) := by rw [(bcell hbv3).1 _ _ (by first | (simp; done) | (simp; omega) | omega)]; simp [go_sem, World.cell?_alloc_past, *]
            have yv301 : v3.cell? ⟨w4.heap.size, 1, none⟩ = some (.int .i64 d0) := by rw [(bcell hbv3).1 _ _ (by first | (simp; done) | (simp; omega) | omega)]; simp [go_sem, World.cell?_alloc_past, *]
            have yv302 : v3.cell? ⟨w4.heap.size, 2, none⟩ = some (.int .i64 n1) := by rw [(bcell hbv3).1 _ _ (by first | (simp; done) | (simp; omega) | omega)]; simp [go_sem, World.cell?_alloc_past, *]
            have yv303 : v3.cell? ⟨w4.heap.size, 3, none⟩ = some (.int .i64 d1) := by rw [(bcell hbv3).1 _ _ (by first | (simp; done) | (simp; omega) | omega)]; simp [go_sem, World.cell?_alloc_past, *]
            have yv304 : v3.cell? ⟨w4.heap.size, 4, none⟩ = some (.int .i64 n2) := by rw [(bcell hbv3).1 _ _ (by first | (simp; done) | (simp; omega) | omega)]; simp [go_sem, World.cell?_alloc_past, *]
            have yv305 : v3.cell? ⟨w4.heap.size, 5, none⟩ = some (.int .i64 d2) := by rw [(bcell hbv3).1 _ _ (by first | (simp; done) | (simp; omega) | omega)]; simp [go_sem, World.cell?_alloc_past, *]
            have ov30 : w4.heap.size < v3.heap.size := by omega
            have nv30 : v3.heap.size ≠ w4.heap.size := by omega
            have mv30 : ¬ v3.heap.size = w4.heap.size := by omega
            have kv30 : ¬ w4.heap.size = v3.heap.size := by omega
            have tv30 : w4.heap.size < v3.heap.size + 1 := by omega
            have yv310 : v3.cell? ⟨w10.heap.size, 0, none⟩ = some (.int .i64 y) := by rw [(bcell hbv3).1 _ _ (by first | (simp; done) | (simp; omega) | omega)]; simp [go_sem, World.cell?_alloc_past, *]
            have yv311 : v3.cell? ⟨w10.heap.size, 1, none⟩ = some (.int .i64 z) := by rw [(bcell hbv3).1 _ _ (by first | (simp; done) | (simp; omega) | omega)]; simp [go_sem, World.cell?_alloc_past, *]
            have ov31 : w10.heap.size < v3.heap.size := by omega
            have nv31 : v3.heap.size ≠ w10.heap.size := by omega
            have mv31 : ¬ v3.heap.size = w10.heap.size := by omega
            have kv31 : ¬ w10.heap.size = v3.heap.size := by omega
            have tv31 : w10.heap.size < v3.heap.size + 1 := by omega
            have hBv3 : Below w.heap.size w v3 := (by (repeat (first | (with_reducible refine Below.drew ?_) | (with_reducible refine below_drewN ?_ _) | (with_reducible refine Below.alloc ?_ (by first | omega | (simp; done) | (simp; omega) | (simp at *; omega)) _) | (with_reducible refine Below.setCell ?_ (by first | omega | (simp; done) | (simp; omega) | (simp at *; omega)) _) | (with_reducible exact Below.refl _ _) | (with_reducible assumption) | (with_reducible refine Below.trans ?_ (Below.mono (by assumption) (by first | omega | (simp; done) | (simp; omega) | (simp at *; omega)))))))
            have wbv3 : w.heap.size ≤ v3.heap.size := by omega
            clear hbv3
            go_wp2_with fail
            refine hK.out _ _ (by simp [go_sem, World.cell?_alloc_past, *]) (fun hHeld => ?_)
            clear hK K
            try simp only [Act.put, List.setIfInBounds_toArray, List.set_cons_zero, List.set_cons_succ]
            refine wpAnyH_take (i := 41) (oi := ⟨some 216, _, _, _, _, _⟩) (v := ?_) rfl (by kernel_rfl) (by kernel_rfl) (by kernel_rfl) (fun _ _ _ h => h) (Or.inl ⟨by kernel_rfl, ?_⟩) (by assumption) ?_
            rotate_left
            · (intro w hSw; (try dsimp only at hSw); go_simp; all_goals with_reducible rfl)
            try simp only [Act.put, List.setIfInBounds_toArray, List.set_cons_zero, List.set_cons_succ]
            refine wpAnyH_take (i := 45) (oi := ⟨some 220, _, _, _, _, _⟩) (v := ?_) rfl (by kernel_rfl) (by kernel_rfl) (by kernel_rfl) (fun _ _ _ h => h) (Or.inl ⟨by kernel_rfl, ?_⟩) (by assumption) ?_
            rotate_left
            · (intro w hSw; (try dsimp only at hSw); go_simp; all_goals with_reducible rfl)
            try simp only [Act.put, List.setIfInBounds_toArray, List.set_cons_zero, List.set_cons_succ]
            refine wpAnyH_ready (rs := [46, 47]) (by kernel_rfl) (by simp) ?_
            refine AllReadyH.cons rfl (fun K hK => ?_) (AllReadyH.cons rfl (fun K hK => ?_) (AllReadyH.nil))
            · skip
              go_simp
              go_at_call 11
              refine (baseLowest_is S T y z _ s0 s1 t0 t1 hy2 hz2).mono ?_
              rintro e v4 ⟨rfl, hbv4⟩
              have zv4 := hbv4.size
              try simp at zv4
              have yv400 : v4.cell? ⟨w4.heap.size, 0, none⟩ = some (.int .i64 n0) := by rw [(bcell hbv4).1 _ _ (by first | (simp; done) | (simp; omega) | omega)]; simp [go_sem, World.cell?_alloc_past, *]
              have yv401 : v4.cell? ⟨w4.heap.size, 1, none⟩ = some (.int .i64 d0) := by rw [(bcell hbv4).1 _ _ (by first | (simp; done) | (simp; omega) | omega)]; simp [go_sem, World.cell?_alloc_past, *]
              have yv402 : v4.cell? ⟨w4.heap.size, 2, none⟩ = some (.int .i64 n1) := by rw [(bcell hbv4).1 _ _ (by first | (simp; done) | (simp; omega) | omega)]; simp [go_sem, World.cell?_alloc_past, *]
              have yv403 : v4.cell? ⟨w4.heap.size, 3, none⟩ = some (.int .i64 d1) := by rw [(bcell hbv4).1 _ _ (by first | (simp; done) | (simp; omega) | omega)]; simp [go_sem, World.cell?_alloc_past, *]
              have yv404 : v4.cell? ⟨w4.heap.size, 4, none⟩ = some (.int .i64 n2) := by rw [(bcell hbv4).1 _ _ (by first | (simp; done) | (simp; omega) | omega)]; simp [go_sem, World.cell?_alloc_past, *]
              have yv405 : v4.cell? ⟨w4.heap.size, 5, none⟩ = some (.int .i64 d2) := by rw [(bcell hbv4).1 _ _ (by first | (simp; done) | (simp; omega) | omega)]; simp [go_sem, World.cell?_alloc_past, *]
              have ov40 : w4.heap.size < v4.heap.size := by omega
              have nv40 : v4.heap.size ≠ w4.heap.size := by omega
              have mv40 : ¬ v4.heap.size = w4.heap.size := by omega
              have kv40 : ¬ w4.heap.size = v4.heap.size := by omega
              have tv40 : w4.heap.size < v4.heap.size + 1 := by omega
              have yv410 : v4.cell? ⟨w10.heap.size, 0, none⟩ = some (.int .i64 y) := by rw [(bcell hbv4).1 _ _ (by first | (simp; done) | (simp; omega) | omega)]; simp [go_sem, World.cell?_alloc_past, *]
              have yv411 : v4.cell? ⟨w10.heap.size, 1, none⟩ = some (.int .i64 z) := by rw [(bcell hbv4).1 _ _ (by first | (simp; done) | (simp; omega) | omega)]; simp [go_sem, World.cell?_alloc_past, *]
              have ov41 : w10.heap.size < v4.heap.size := by omega
              have nv41 : v4.heap.size ≠ w10.heap.size := by omega
              have mv41 : ¬ v4.heap.size = w10.heap.size := by omega
              have kv41 : ¬ w10.heap.size = v4.heap.size := by omega
              have tv41 : w10.heap.size < v4.heap.size + 1 := by omega
              have hBv4 : Below w.heap.size w v4 := (by (repeat (first | (with_reducible refine Below.drew ?_) | (with_reducible refine below_drewN ?_ _) | (with_reducible refine Below.alloc ?_ (by first | omega | (simp; done) | (simp; omega) | (simp at *; omega)) _) | (with_reducible refine Below.setCell ?_ (by first | omega | (simp; done) | (simp; omega) | (simp at *; omega)) _) | (with_reducible exact Below.refl _ _) | (with_reducible assumption) | (with_reducible refine Below.trans ?_ (Below.mono (by assumption) (by first | omega | (simp; done) | (simp; omega) | (simp at *; omega)))))))
              have wbv4 : w.heap.size ≤ v4.heap.size := by omega
              clear hbv4
              go_wp2_with fail
              refine hK.out _ _ (by simp [go_sem, World.cell?_alloc_past, *]) (fun hHeld => ?_)
              clear hK K
              try simp only [Act.put, List.setIfInBounds_toArray, List.set_cons_zero, List.set_cons_succ]
              refine wpAnyH_ready (rs := [47]) (by kernel_rfl) (by simp) ?_
              refine AllReadyH.cons rfl (fun K hK => ?_) (AllReadyH.nil)
              go_simp
              go_wp2_with fail
              refine hK.out _ _ (by simp [go_sem, World.cell?_alloc_past, *]) (fun hHeld => ?_)
              clear hK K
              try simp only [Act.put, List.setIfInBounds_toArray, List.set_cons_zero, List.set_cons_succ]
              refine wpAnyH_ready (rs := [48]) (by kernel_rfl) (by simp) ?_
              refine AllReadyH.cons rfl (fun K hK => ?_) AllReadyH.nil
              go_simp
              go_wp2_with fail
              refine hK.out _ _ (by simp [go_sem, World.cell?_alloc_past, *]) (fun hHeld => ?_)
              clear hK K
              try simp only [Act.put, List.setIfInBounds_toArray, List.set_cons_zero, List.set_cons_succ]
              refine wpAnyH_done (by kernel_rfl) ?_ _
              have hEq3 := eqFrac4
              go_wp2
              go_ret
              exact ⟨by first | rfl | (simp; done) | (apply ret_bool; simp), (by (repeat (first | (with_reducible refine Below.drew ?_) | (with_reducible refine below_drewN ?_ _) | (with_reducible refine Below.alloc ?_ (by first | omega | (simp; done) | (simp; omega) | (simp at *; omega)) _) | (with_reducible refine Below.setCell ?_ (by first | omega | (simp; done) | (simp; omega) | (simp at *; omega)) _) | (with_reducible exact Below.refl _ _) | (with_reducible assumption) | (with_reducible refine Below.trans ?_ (Below.mono (by assumption) (by first | omega | (simp; done) | (simp; omega) | (simp at *; omega)))))))⟩
            · skip
              go_simp
              go_wp2_with fail
              refine hK.out _ _ (by simp [go_sem, World.cell?_alloc_past, *]) (fun hHeld => ?_)
              clear hK K
              try simp only [Act.put, List.setIfInBounds_toArray, List.set_cons_zero, List.set_cons_succ]
              refine wpAnyH_ready (rs := [46]) (by kernel_rfl) (by simp) ?_
              refine AllReadyH.cons rfl (fun K hK => ?_) (AllReadyH.nil)
              go_simp
              go_at_call 11
              refine (baseLowest_is S T y z _ s0 s1 t0 t1 hy2 hz2).mono ?_
              rintro e v4a ⟨rfl, hbv4a⟩
              have zv4a := hbv4a.size
              try simp at zv4a
              have yv4a00 : v4a.cell? ⟨w4.heap.size, 0, none⟩ = some (.int .i64 n0) := by rw [(bcell hbv4a).1 _ _ (by first | (simp; done) | (simp; omega) | omega)]; simp [go_sem, World.cell?_alloc_past, *]
              have yv4a01 : v4a.cell? ⟨w4.heap.size, 1, none⟩ = some (.int .i64 d0) := by rw [(bcell hbv4a).1 _ _ (by first | (simp; done) | (simp; omega) | omega)]; simp [go_sem, World.cell?_alloc_past, *]
              have yv4a02 : v4a.cell? ⟨w4.heap.size, 2, none⟩ = some (.int .i64 n1) := by rw [(bcell hbv4a).1 _ _ (by first | (simp; done) | (simp; omega) | omega)]; simp [go_sem, World.cell?_alloc_past, *]
              have yv4a03 : v4a.cell? ⟨w4.heap.size, 3, none⟩ = some (.int .i64 d1) := by rw [(bcell hbv4a).1 _ _ (by first | (simp; done) | (simp; omega) | omega)]; simp [go_sem, World.cell?_alloc_past, *]
              have yv4a04 : v4a.cell? ⟨w4.heap.size, 4, none⟩ = some (.int .i64 n2) := by rw [(bcell hbv4a).1 _ _ (by first | (simp; done) | (simp; omega) | omega)]; simp [go_sem, World.cell?_alloc_past, *]
              have yv4a05 : v4a.cell? ⟨w4.heap.size, 5, none⟩ = some (.int .i64 d2) := by rw [(bcell hbv4a).1 _ _ (by first | (simp; done) | (simp; omega) | omega)]; simp [go_sem, World.cell?_alloc_past, *]
              have ov4a0 : w4.heap.size < v4a.heap.size := by omega
              have nv4a0 : v4a.heap.size ≠ w4.heap.size := by omega
              have mv4a0 : ¬ v4a.heap.size = w4.heap.size := by omega
              have kv4a0 : ¬ w4.heap.size = v4a.heap.size := by omega
              have tv4a0 : w4.heap.size < v4a.heap.size + 1 := by omega
              have yv4a10 : v4a.cell? ⟨w10.heap.size, 0, none⟩ = some (.int .i64 y) := by rw [(bcell hbv4a).1 _ _ (by first | (simp; done) | (simp; omega) | omega)]; simp [go_sem, World.cell?_alloc_past, *]
              have yv4a11 : v4a.cell? ⟨w10.heap.size, 1, none⟩ = some (.int .i64 z) := by rw [(bcell hbv4a).1 _ _ (by first | (simp; done) | (simp; omega) | omega)]; simp [go_sem, World.cell?_alloc_past, *]
              have ov4a1 : w10.heap.size < v4a.heap.size := by omega
              have nv4a1 : v4a.heap.size ≠ w10.heap.size := by omega
              have mv4a1 : ¬ v4a.heap.size = w10.heap.size := by omega
              have kv4a1 : ¬ w10.heap.size = v4a.heap.size := by omega
              have tv4a1 : w10.heap.size < v4a.heap.size + 1 := by omega
              have yv4a20 : v4a.cell? ⟨v3.heap.size, 0, none⟩ = some (.int .i64 0) := by rw [(bcell hbv4a).1 _ _ (by first | (simp; done) | (simp; omega) | omega)]; simp [go_sem, World.cell?_alloc_past, *]
              have yv4a21 : v4a.cell? ⟨v3.heap.size, 1, none⟩ = some (.int .i64 0) := by rw [(bcell hbv4a).1 _ _ (by first | (simp; done) | (simp; omega) | omega)]; simp [go_sem, World.cell?_alloc_past, *]
              have ov4a2 : v3.heap.size < v4a.heap.size := by omega
              have nv4a2 : v4a.heap.size ≠ v3.heap.size := by omega
              have mv4a2 : ¬ v4a.heap.size = v3.heap.size := by omega
              have kv4a2 : ¬ v3.heap.size = v4a.heap.size := by omega
              have tv4a2 : v3.heap.size < v4a.heap.size + 1 := by omega
              have fv4a : ∀ j, v4a.frozen? ⟨v3.heap.size, j, none⟩ = false := by intro j; rw [(bcell hbv4a).2 _ _ (by first | (simp; done) | (simp; omega) | omega)]; simp [go_sem, *]
              have hBv4a : Below w.heap.size w v4a := (by (repeat (first | (with_reducible refine Below.drew ?_) | (with_reducible refine below_drewN ?_ _) | (with_reducible refine Below.alloc ?_ (by first | omega | (simp; done) | (simp; omega) | (simp at *; omega)) _) | (with_reducible refine Below.setCell ?_ (by first | omega | (simp; done) | (simp; omega) | (simp at *; omega)) _) | (with_reducible exact Below.refl _ _) | (with_reducible assumption) | (with_reducible refine Below.trans ?_ (Below.mono (by assumption) (by first | omega | (simp; done) | (simp; omega) | (simp at *; omega)))))))
              have wbv4a : w.heap.size ≤ v4a.heap.size := by omega
              clear hbv4a
              go_wp2_with fail
              refine hK.out _ _ (by simp [go_sem, World.cell?_alloc_past, *]) (fun hHeld => ?_)
              clear hK K
              try simp only [Act.put, List.setIfInBounds_toArray, List.set_cons_zero, List.set_cons_succ]
              refine wpAnyH_ready (rs := [48]) (by kernel_rfl) (by simp) ?_
              refine AllReadyH.cons rfl (fun K hK => ?_) AllReadyH.nil
              go_simp
              go_wp2_with fail
              refine hK.out _ _ (by simp [go_sem, World.cell?_alloc_past, *]) (fun hHeld => ?_)
              clear hK K
              try simp only [Act.put, List.setIfInBounds_toArray, List.set_cons_zero, List.set_cons_succ]
              refine wpAnyH_done (by kernel_rfl) ?_ _
              have hEq3 := eqFrac4
              go_wp2
              go_ret
              exact ⟨by first | rfl | (simp; done) | (apply ret_bool; simp), (by (repeat (first | (with_reducible refine Below.drew ?_) | (with_reducible refine below_drewN ?_ _) | (with_reducible refine Below.alloc ?_ (by first | omega | (simp; done) | (simp; omega) | (simp at *; omega)) _) | (with_reducible refine Below.setCell ?_ (by first | omega | (simp; done) | (simp; omega) | (simp at *; omega)) _) | (with_reducible exact Below.refl _ _) | (with_reducible assumption) | (with_reducible refine Below.trans ?_ (Below.mono (by assumption) (by first | omega | (simp; done) | (simp; omega) | (simp at *; omega)))))))⟩
          · skip
            go_simp
            go_wp2_with fail
            refine hK.out _ _ (by simp [go_sem, World.cell?_alloc_past, *]) (fun hHeld => ?_)
            clear hK K
            try simp only [Act.put, List.setIfInBounds_toArray, List.set_cons_zero, List.set_cons_succ]
            refine wpAnyH_ready (rs := [40]) (by kernel_rfl) (by simp) ?_
            refine AllReadyH.cons rfl (fun K hK => ?_) (AllReadyH.nil)
            go_simp
            go_at_call 13
            refine (baseGcd_is d0 d1 g _ (by omega) (by omega) (by omega) (by omega) hg).mono ?_
            rintro e v3a ⟨rfl, hbv3a⟩
            have zv3a := hbv3a.size
            try simp at zv3a
            have yv3a00 : v3a.cell? ⟨w4.heap.size, 0, none⟩ = some (.int .i64 n0) := by rw [(bcell hbv3a).1 _ _ (by first | (simp; done) | (simp; omega) | omega)]; simp [go_sem, World.cell?_alloc_past, *]
            have yv3a01 : v3a.cell? ⟨w4.heap.size, 1, none⟩ = some (.int .i64 d0) := by rw [(bcell hbv3a).1 _ _ (by first | (simp; done) | (simp; omega) | omega)]; simp [go_sem, World.cell?_alloc_past, *]
            have yv3a02 : v3a.cell? ⟨w4.heap.size, 2, none⟩ = some (.int .i64 n1) := by rw [(bcell hbv3a).1 _ _ (by first | (simp; done) | (simp; omega) | omega)]; simp [go_sem, World.cell?_alloc_past, *]
            have yv3a03 : v3a.cell? ⟨w4.heap.size, 3, none⟩ = some (.int .i64 d1) := by rw [(bcell hbv3a).1 _ _ (by first | (simp; done) | (simp; omega) | omega)]; simp [go_sem, World.cell?_alloc_past, *]
            have yv3a04 : v3a.cell? ⟨w4.heap.size, 4, none⟩ = some (.int .i64 n2) := by rw [(bcell hbv3a).1 _ _ (by first | (simp; done) | (simp; omega) | omega)]; simp [go_sem, World.cell?_alloc_past, *]
            have yv3a05 : v3a.cell? ⟨w4.heap.size, 5, none⟩ = some (.int .i64 d2) := by rw [(bcell hbv3a).1 _ _ (by first | (simp; done) | (simp; omega) | omega)]; simp [go_sem, World.cell?_alloc_past, *]
            have ov3a0 : w4.heap.size < v3a.heap.size := by omega
            have nv3a0 : v3a.heap.size ≠ w4.heap.size := by omega
            have mv3a0 : ¬ v3a.heap.size = w4.heap.size := by omega
            have kv3a0 : ¬ w4.heap.size = v3a.heap.size := by omega
            have tv3a0 : w4.heap.size < v3a.heap.size + 1 := by omega
            have yv3a10 : v3a.cell? ⟨w10.heap.size, 0, none⟩ = some (.int .i64 y) := by rw [(bcell hbv3a).1 _ _ (by first | (simp; done) | (simp; omega) | omega)]; simp [go_sem, World.cell?_alloc_past, *]
            have yv3a11 : v3a.cell? ⟨w10.heap.size, 1, none⟩ = some (.int .i64 z) := by rw [(bcell hbv3a).1 _ _ (by first | (simp; done) | (simp; omega) | omega)]; simp [go_sem, World.cell?_alloc_past, *]
            have ov3a1 : w10.heap.size < v3a.heap.size := by omega
            have nv3a1 : v3a.heap.size ≠ w10.heap.size := by omega
            have mv3a1 : ¬ v3a.heap.size = w10.heap.size := by omega
            have kv3a1 : ¬ w10.heap.size = v3a.heap.size := by omega
            have tv3a1 : w10.heap.size < v3a.heap.size + 1 := by omega
            have yv3a20 : v3a.cell? ⟨v2.heap.size, 0, none⟩ = some (.int .i64 0) := by rw [(bcell hbv3a).1 _ _ (by first | (simp; done) | (simp; omega) | omega)]; simp [go_sem, World.cell?_alloc_past, *]
            have yv3a21 : v3a.cell? ⟨v2.heap.size, 1, none⟩ = some (.int .i64 0) := by rw [(bcell hbv3a).1 _ _ (by first | (simp; done) | (simp; omega) | omega)]; simp [go_sem, World.cell?_alloc_past, *]
            have ov3a2 : v2.heap.size < v3a.heap.size := by omega
            have nv3a2 : v3a.heap.size ≠ v2.heap.size := by omega
            have mv3a2 : ¬ v3a.heap.size = v2.heap.size := by omega
            have kv3a2 : ¬ v2.heap.size = v3a.heap.size := by omega
            have tv3a2 : v2.heap.size < v3a.heap.size + 1 := by omega
            have fv3a : ∀ j, v3a.frozen? ⟨v2.heap.size, j, none⟩ = false := by intro j; rw [(bcell hbv3a).2 _ _ (by first | (simp; done) | (simp; omega) | omega)]; simp [go_sem, *]
            have hBv3a : Below w.heap.size w v3a := (by (repeat (first | (with_reducible refine Below.drew ?_) | (with_reducible refine below_drewN ?_ _) | (with_reducible refine Below.alloc ?_ (by first | omega | (simp; done) | (simp; omega) | (simp at *; omega)) _) | (with_reducible refine Below.setCell ?_ (by first | omega | (simp; done) | (simp; omega) | (simp at *; omega)) _) | (with_reducible exact Below.refl _ _) | (with_reducible assumption) | (with_reducible refine Below.trans ?_ (Below.mono (by assumption) (by first | omega | (simp; done) | (simp; omega) | (simp at *; omega)))))))
            have wbv3a : w.heap.size ≤ v3a.heap.size := by omega
            clear hbv3a
            go_wp2_with fail
            refine hK.out _ _ (by simp [go_sem, World.cell?_alloc_past, *]) (fun hHeld => ?_)
            clear hK K
            try simp only [Act.put, List.setIfInBounds_toArray, List.set_cons_zero, List.set_cons_succ]
            refine wpAnyH_take (i := 41) (oi := ⟨some 216, _, _, _, _, _⟩) (v := ?_) rfl (by kernel_rfl) (by kernel_rfl) (by kernel_rfl) (fun _ _ _ h => h) (Or.inl ⟨by kernel_rfl, ?_⟩) (by assumption) ?_
            rotate_left
            · (intro w hSw; (try dsimp only at hSw); go_simp; all_goals with_reducible rfl)
            try simp only [Act.put, List.setIfInBounds_toArray, List.set_cons_zero, List.set_cons_succ]
            refine wpAnyH_take (i := 45) (oi := ⟨some 220, _, _, _, _, _⟩) (v := ?_) rfl (by kernel_rfl) (by kernel_rfl) (by kernel_rfl) (fun _ _ _ h => h) (Or.inl ⟨by kernel_rfl, ?_⟩) (by assumption) ?_
            rotate_left
            · (intro w hSw; (try dsimp only at hSw); go_simp; all_goals with_reducible rfl)
            try simp only [Act.put, List.setIfInBounds_toArray, List.set_cons_zero, List.set_cons_succ]
            refine wpAnyH_ready (rs := [46]) (by kernel_rfl) (by simp) ?_
            refine AllReadyH.cons rfl (fun K hK => ?_) (AllReadyH.nil)
            go_simp
            go_at_call 11
            refine (baseLowest_is S T y z _ s0 s1 t0 t1 hy2 hz2).mono ?_
            rintro e v4a ⟨rfl, hbv4a⟩
            have zv4a := hbv4a.size
            try simp at zv4a
            have yv4a00 : v4a.cell? ⟨w4.heap.size, 0, none⟩ = some (.int .i64 n0) := by rw [(bcell hbv4a).1 _ _ (by first | (simp; done) | (simp; omega) | omega)]; simp [go_sem, World.cell?_alloc_past, *]
            have yv4a01 : v4a.cell? ⟨w4.heap.size, 1, none⟩ = some (.int .i64 d0) := by rw [(bcell hbv4a).1 _ _ (by first | (simp; done) | (simp; omega) | omega)]; simp [go_sem, World.cell?_alloc_past, *]
            have yv4a02 : v4a.cell? ⟨w4.heap.size, 2, none⟩ = some (.int .i64 n1) := by rw [(bcell hbv4a).1 _ _ (by first | (simp; done) | (simp; omega) | omega)]; simp [go_sem, World.cell?_alloc_past, *]
            have yv4a03 : v4a.cell? ⟨w4.heap.size, 3, none⟩ = some (.int .i64 d1) := by rw [(bcell hbv4a).1 _ _ (by first | (simp; done) | (simp; omega) | omega)]; simp [go_sem, World.cell?_alloc_past, *]
            have yv4a04 : v4a.cell? ⟨w4.heap.size, 4, none⟩ = some (.int .i64 n2) := by rw [(bcell hbv4a).1 _ _ (by first | (simp; done) | (simp; omega) | omega)]; simp [go_sem, World.cell?_alloc_past, *]
            have yv4a05 : v4a.cell? ⟨w4.heap.size, 5, none⟩ = some (.int .i64 d2) := by rw [(bcell hbv4a).1 _ _ (by first | (simp; done) | (simp; omega) | omega)]; simp [go_sem, World.cell?_alloc_past, *]
            have ov4a0 : w4.heap.size < v4a.heap.size := by omega
            have nv4a0 : v4a.heap.size ≠ w4.heap.size := by omega
            have mv4a0 : ¬ v4a.heap.size = w4.heap.size := by omega
            have kv4a0 : ¬ w4.heap.size = v4a.heap.size := by omega
            have tv4a0 : w4.heap.size < v4a.heap.size + 1 := by omega
            have yv4a10 : v4a.cell? ⟨w10.heap.size, 0, none⟩ = some (.int .i64 y) := by rw [(bcell hbv4a).1 _ _ (by first | (simp; done) | (simp; omega) | omega)]; simp [go_sem, World.cell?_alloc_past, *]
            have yv4a11 : v4a.cell? ⟨w10.heap.size, 1, none⟩ = some (.int .i64 z) := by rw [(bcell hbv4a).1 _ _ (by first | (simp; done) | (simp; omega) | omega)]; simp [go_sem, World.cell?_alloc_past, *]
            have ov4a1 : w10.heap.size < v4a.heap.size := by omega
            have nv4a1 : v4a.heap.size ≠ w10.heap.size := by omega
            have mv4a1 : ¬ v4a.heap.size = w10.heap.size := by omega
            have kv4a1 : ¬ w10.heap.size = v4a.heap.size := by omega
            have tv4a1 : w10.heap.size < v4a.heap.size + 1 := by omega
            have yv4a20 : v4a.cell? ⟨v2.heap.size, 0, none⟩ = some (.int .i64 0) := by rw [(bcell hbv4a).1 _ _ (by first | (simp; done) | (simp; omega) | omega)]; simp [go_sem, World.cell?_alloc_past, *]
            have yv4a21 : v4a.cell? ⟨v2.heap.size, 1, none⟩ = some (.int .i64 0) := by rw [(bcell hbv4a).1 _ _ (by first | (simp; done) | (simp; omega) | omega)]; simp [go_sem, World.cell?_alloc_past, *]
            have ov4a2 : v2.heap.size < v4a.heap.size := by omega
            have nv4a2 : v4a.heap.size ≠ v2.heap.size := by omega
            have mv4a2 : ¬ v4a.heap.size = v2.heap.size := by omega
            have kv4a2 : ¬ v2.heap.size = v4a.heap.size := by omega
            have tv4a2 : v2.heap.size < v4a.heap.size + 1 := by omega
            have fv4a : ∀ j, v4a.frozen? ⟨v2.heap.size, j, none⟩ = false := by intro j; rw [(bcell hbv4a).2 _ _ (by first | (simp; done) | (simp; omega) | omega)]; simp [go_sem, *]
            have hBv4a : Below w.heap.size w v4a := (by (repeat (first | (with_reducible refine Below.drew ?_) | (with_reducible refine below_drewN ?_ _) | (with_reducible refine Below.alloc ?_ (by first | omega | (simp; done) | (simp; omega) | (simp at *; omega)) _) | (with_reducible refine Below.setCell ?_ (by first | omega | (simp; done) | (simp; omega) | (simp at *; omega)) _) | (with_reducible exact Below.refl _ _) | (with_reducible assumption) | (with_reducible refine Below.trans ?_ (Below.mono (by assumption) (by first | omega | (simp; done) | (simp; omega) | (simp at *; omega)))))))
            have wbv4a : w.heap.size ≤ v4a.heap.size := by omega
            clear hbv4a
            go_wp2_with fail
            refine hK.out _ _ (by simp [go_sem, World.cell?_alloc_past, *]) (fun hHeld => ?_)
            clear hK K
            try simp only [Act.put, List.setIfInBounds_toArray, List.set_cons_zero, List.set_cons_succ]
            refine wpAnyH_ready (rs := [48]) (by kernel_rfl) (by simp) ?_
            refine AllReadyH.cons rfl (fun K hK => ?_) AllReadyH.nil
            go_simp
            go_wp2_with fail
            refine hK.out _ _ (by simp [go_sem, World.cell?_alloc_past, *]) (fun hHeld => ?_)
            clear hK K
            try simp only [Act.put, List.setIfInBounds_toArray, List.set_cons_zero, List.set_cons_succ]
            refine wpAnyH_done (by kernel_rfl) ?_ _
            have hEq3 := eqFrac4
            go_wp2
            go_ret
            exact ⟨by first | rfl | (simp; done) | (apply ret_bool; simp), (by (repeat (first | (with_reducible refine Below.drew ?_) | (with_reducible refine below_drewN ?_ _) | (with_reducible refine Below.alloc ?_ (by first | omega | (simp; done) | (simp; omega) | (simp at *; omega)) _) | (with_reducible refine Below.setCell ?_ (by first | omega | (simp; done) | (simp; omega) | (simp at *; omega)) _) | (with_reducible exact Below.refl _ _) | (with_reducible assumption) | (with_reducible refine Below.trans ?_ (Below.mono (by assumption) (by first | omega | (simp; done) | (simp; omega) | (simp at *; omega)))))))⟩
        · skip
          go_simp
          go_wp2_with fail
          refine hK.out _ _ (by simp [go_sem, World.cell?_alloc_past, *]) (fun hHeld => ?_)
          clear hK K
          try simp only [Act.put, List.setIfInBounds_toArray, List.set_cons_zero, List.set_cons_succ]
          refine wpAnyH_ready (rs := [27]) (by kernel_rfl) (by simp) ?_
          refine AllReadyH.cons rfl (fun K hK => ?_) (AllReadyH.nil)
          go_simp
          go_at_call 13
          refine (baseGcd_is d0 d1 g _ (by omega) (by omega) (by omega) (by omega) hg).mono ?_
          rintro e v2a ⟨rfl, hbv2a⟩
          have zv2a := hbv2a.size
          try simp at zv2a
          have yv2a00 : v2a.cell? ⟨w4.heap.size, 0, none⟩ = some (.int .i64 n0) := by rw [(bcell hbv2a).1 _ _ (by first | (simp; done) | (simp; omega) | omega)]; simp [go_sem, World.cell?_alloc_past, *]
          have yv2a01 : v2a.cell? ⟨w4.heap.size, 1, none⟩ = some (.int .i64 d0) := by rw [(bcell hbv2a).1 _ _ (by first | (simp; done) | (simp; omega) | omega)]; simp [go_sem, World.cell?_alloc_past, *]
          have yv2a02 : v2a.cell? ⟨w4.heap.size, 2, none⟩ = some (.int .i64 n1) := by rw [(bcell hbv2a).1 _ _ (by first | (simp; done) | (simp; omega) | omega)]; simp [go_sem, World.cell?_alloc_past, *]
          have yv2a03 : v2a.cell? ⟨w4.heap.size, 3, none⟩ = some (.int .i64 d1) := by rw [(bcell hbv2a).1 _ _ (by first | (simp; done) | (simp; omega) | omega)]; simp [go_sem, World.cell?_alloc_past, *]
          have yv2a04 : v2a.cell? ⟨w4.heap.size, 4, none⟩ = some (.int .i64 n2) := by rw [(bcell hbv2a).1 _ _ (by first | (simp; done) | (simp; omega) | omega)]; simp [go_sem, World.cell?_alloc_past, *]
          have yv2a05 : v2a.cell? ⟨w4.heap.size, 5, none⟩ = some (.int .i64 d2) := by rw [(bcell hbv2a).1 _ _ (by first | (simp; done) | (simp; omega) | omega)]; simp [go_sem, World.cell?_alloc_past, *]
          have ov2a0 : w4.heap.size < v2a.heap.size := by omega
          have nv2a0 : v2a.heap.size ≠ w4.heap.size := by omega
          have mv2a0 : ¬ v2a.heap.size = w4.heap.size := by omega
          have kv2a0 : ¬ w4.heap.size = v2a.heap.size := by omega
          have tv2a0 : w4.heap.size < v2a.heap.size + 1 := by omega
          have yv2a10 : v2a.cell? ⟨w10.heap.size, 0, none⟩ = some (.int .i64 y) := by rw [(bcell hbv2a).1 _ _ (by first | (simp; done) | (simp; omega) | omega)]; simp [go_sem, World.cell?_alloc_past, *]
          have yv2a11 : v2a.cell? ⟨w10.heap.size, 1, none⟩ = some (.int .i64 z) := by rw [(bcell hbv2a).1 _ _ (by first | (simp; done) | (simp; omega) | omega)]; simp [go_sem, World.cell?_alloc_past, *]
          have ov2a1 : w10.heap.size < v2a.heap.size := by omega
          have nv2a1 : v2a.heap.size ≠ w10.heap.size := by omega
          have mv2a1 : ¬ v2a.heap.size = w10.heap.size := by omega
          have kv2a1 : ¬ w10.heap.size = v2a.heap.size := by omega
          have tv2a1 : w10.heap.size < v2a.heap.size + 1 := by omega
          have yv2a20 : v2a.cell? ⟨v1.heap.size, 0, none⟩ = some (.int .i64 0) := by rw [(bcell hbv2a).1 _ _ (by first | (simp; done) | (simp; omega) | omega)]; simp [go_sem, World.cell?_alloc_past, *]
          have yv2a21 : v2a.cell? ⟨v1.heap.size, 1, none⟩ = some (.int .i64 0) := by rw [(bcell hbv2a).1 _ _ (by first | (simp; done) | (simp; omega) | omega)]; simp [go_sem, World.cell?_alloc_past, *]
          have ov2a2 : v1.heap.size < v2a.heap.size := by omega
          have nv2a2 : v2a.heap.size ≠ v1.heap.size := by omega
          have mv2a2 : ¬ v2a.heap.size = v1.heap.size := by omega
          have kv2a2 : ¬ v1.heap.size = v2a.heap.size := by omega
          have tv2a2 : v1.heap.size < v2a.heap.size + 1 := by omega
          have fv2a : ∀ j, v2a.frozen? ⟨v1.heap.size, j, none⟩ = false := by intro j; rw [(bcell hbv2a).2 _ _ (by first | (simp; done) | (simp; omega) | omega)]; simp [go_sem, *]
          have hBv2a : Below w.heap.size w v2a := (by (repeat (first | (with_reducible refine Below.drew ?_) | (with_reducible refine below_drewN ?_ _) | (with_reducible refine Below.alloc ?_ (by first | omega | (simp; done) | (simp; omega) | (simp at *; omega)) _) | (with_reducible refine Below.setCell ?_ (by first | omega | (simp; done) | (simp; omega) | (simp at *; omega)) _) | (with_reducible exact Below.refl _ _) | (with_reducible assumption) | (with_reducible refine Below.trans ?_ (Below.mono (by assumption) (by first | omega | (simp; done) | (simp; omega) | (simp at *; omega)))))))
          have wbv2a : w.heap.size ≤ v2a.heap.size := by omega
          clear hbv2a
          go_wp2_with fail
          refine hK.out _ _ (by simp [go_sem, World.cell?_alloc_past, *]) (fun hHeld => ?_)
          clear hK K
          try simp only [Act.put, List.setIfInBounds_toArray, List.set_cons_zero, List.set_cons_succ]
          refine wpAnyH_take (i := 28) (oi := ⟨some 203, _, _, _, _, _⟩) (v := ?_) rfl (by kernel_rfl) (by kernel_rfl) (by kernel_rfl) (fun _ _ _ h => h) (Or.inl ⟨by kernel_rfl, ?_⟩) (by assumption) ?_
          rotate_left
          · (intro w hSw; (try dsimp only at hSw); go_simp; all_goals with_reducible rfl)
          try simp only [Act.put, List.setIfInBounds_toArray, List.set_cons_zero, List.set_cons_succ]
          refine wpAnyH_take (i := 29) (oi := ⟨some 204, _, _, _, _, _⟩) (v := ?_) rfl (by kernel_rfl) (by kernel_rfl) (by kernel_rfl) (fun _ _ _ h => h) (Or.inl ⟨by kernel_rfl, ?_⟩) (by assumption) ?_
          rotate_left
          · (intro w hSw; (try dsimp only at hSw); go_simp; all_goals with_reducible rfl)
          try simp only [Act.put, List.setIfInBounds_toArray, List.set_cons_zero, List.set_cons_succ]
          refine wpAnyH_take (i := 30) (oi := ⟨some 205, _, _, _, _, _⟩) (v := ?_) rfl (by kernel_rfl) (by kernel_rfl) (by kernel_rfl) (fun _ _ _ h => h) (Or.inl ⟨by kernel_rfl, ?_⟩) (by assumption) ?_
          rotate_left
          · (intro w hSw; (try dsimp only at hSw); go_simp; all_goals with_reducible rfl)
          try simp only [Act.put, List.setIfInBounds_toArray, List.set_cons_zero, List.set_cons_succ]
          refine wpAnyH_ready (rs := [40]) (by kernel_rfl) (by simp) ?_
          refine AllReadyH.cons rfl (fun K hK => ?_) (AllReadyH.nil)
          go_simp
          go_at_call 13
          refine (baseGcd_is d0 d1 g _ (by omega) (by omega) (by omega) (by omega) hg).mono ?_
          rintro e v3a ⟨rfl, hbv3a⟩
          have zv3a := hbv3a.size
          try simp at zv3a
          have yv3a00 : v3a.cell? ⟨w4.heap.size, 0, none⟩ = some (.int .i64 n0) := by rw [(bcell hbv3a).1 _ _ (by first | (simp; done) | (simp; omega) | omega)]; simp [go_sem, World.cell?_alloc_past, *]
          have yv3a01 : v3a.cell? ⟨w4.heap.size, 1, none⟩ = some (.int .i64 d0) := by rw [(bcell hbv3a).1 _ _ (by first | (simp; done) | (simp; omega) | omega)]; simp [go_sem, World.cell?_alloc_past, *]
          have yv3a02 : v3a.cell? ⟨w4.heap.size, 2, none⟩ = some (.int .i64 n1) := by rw [(bcell hbv3a).1 _ _ (by first | (simp; done) | (simp; omega) | omega)]; simp [go_sem, World.cell?_alloc_past, *]
          have yv3a03 : v3a.cell? ⟨w4.heap.size, 3, none⟩ = some (.int .i64 d1) := by rw [(bcell hbv3a).1 _ _ (by first | (simp; done) | (simp; omega) | omega)]; simp [go_sem, World.cell?_alloc_past, *]
          have yv3a04 : v3a.cell? ⟨w4.heap.size, 4, none⟩ = some (.int .i64 n2) := by rw [(bcell hbv3a).1 _ _ (by first | (simp; done) | (simp; omega) | omega)]; simp [go_sem, World.cell?_alloc_past, *]
          have yv3a05 : v3a.cell? ⟨w4.heap.size, 5, none⟩ = some (.int .i64 d2) := by rw [(bcell hbv3a).1 _ _ (by first | (simp; done) | (simp; omega) | omega)]; simp [go_sem, World.cell?_alloc_past, *]
          have ov3a0 : w4.heap.size < v3a.heap.size := by omega
          have nv3a0 : v3a.heap.size ≠ w4.heap.size := by omega
          have mv3a0 : ¬ v3a.heap.size = w4.heap.size := by omega
          have kv3a0 : ¬ w4.heap.size = v3a.heap.size := by omega
          have tv3a0 : w4.heap.size < v3a.heap.size + 1 := by omega
          have yv3a10 : v3a.cell? ⟨w10.heap.size, 0, none⟩ = some (.int .i64 y) := by rw [(bcell hbv3a).1 _ _ (by first | (simp; done) | (simp; omega) | omega)]; simp [go_sem, World.cell?_alloc_past, *]
          have yv3a11 : v3a.cell? ⟨w10.heap.size, 1, none⟩ = some (.int .i64 z) := by rw [(bcell hbv3a).1 _ _ (by first | (simp; done) | (simp; omega) | omega)]; simp [go_sem, World.cell?_alloc_past, *]
          have ov3a1 : w10.heap.size < v3a.heap.size := by omega
          have nv3a1 : v3a.heap.size ≠ w10.heap.size := by omega
          have mv3a1 : ¬ v3a.heap.size = w10.heap.size := by omega
          have kv3a1 : ¬ w10.heap.size = v3a.heap.size := by omega
          have tv3a1 : w10.heap.size < v3a.heap.size + 1 := by omega
          have yv3a20 : v3a.cell? ⟨v1.heap.size, 0, none⟩ = some (.int .i64 0) := by rw [(bcell hbv3a).1 _ _ (by first | (simp; done) | (simp; omega) | omega)]; simp [go_sem, World.cell?_alloc_past, *]
          have yv3a21 : v3a.cell? ⟨v1.heap.size, 1, none⟩ = some (.int .i64 0) := by rw [(bcell hbv3a).1 _ _ (by first | (simp; done) | (simp; omega) | omega)]; simp [go_sem, World.cell?_alloc_past, *]
          have ov3a2 : v1.heap.size < v3a.heap.size := by omega
          have nv3a2 : v3a.heap.size ≠ v1.heap.size := by omega
          have mv3a2 : ¬ v3a.heap.size = v1.heap.size := by omega
          have kv3a2 : ¬ v1.heap.size = v3a.heap.size := by omega
          have tv3a2 : v1.heap.size < v3a.heap.size + 1 := by omega
          have fv3a : ∀ j, v3a.frozen? ⟨v1.heap.size, j, none⟩ = false := by intro j; rw [(bcell hbv3a).2 _ _ (by first | (simp; done) | (simp; omega) | omega)]; simp [go_sem, *]
          have hBv3a : Below w.heap.size w v3a := (by (repeat (first | (with_reducible refine Below.drew ?_) | (with_reducible refine below_drewN ?_ _) | (with_reducible refine Below.alloc ?_ (by first | omega | (simp; done) | (simp; omega) | (simp at *; omega)) _) | (with_reducible refine Below.setCell ?_ (by first | omega | (simp; done) | (simp; omega) | (simp at *; omega)) _) | (with_reducible exact Below.refl _ _) | (with_reducible assumption) | (with_reducible refine Below.trans ?_ (Below.mono (by assumption) (by first | omega | (simp; done) | (simp; omega) | (simp at *; omega)))))))
          have wbv3a : w.heap.size ≤ v3a.heap.size := by omega
          clear hbv3a
          go_wp2_with fail
          refine hK.out _ _ (by simp [go_sem, World.cell?_alloc_past, *]) (fun hHeld => ?_)
          clear hK K
          try simp only [Act.put, List.setIfInBounds_toArray, List.set_cons_zero, List.set_cons_succ]
          refine wpAnyH_take (i := 41) (oi := ⟨some 216, _, _, _, _, _⟩) (v := ?_) rfl (by kernel_rfl) (by kernel_rfl) (by kernel_rfl) (fun _ _ _ h => h) (Or.inl ⟨by kernel_rfl, ?_⟩) (by assumption) ?_
          rotate_left
          · (intro w hSw; (try dsimp only at hSw); go_simp; all_goals with_reducible rfl)
          try simp only [Act.put, List.setIfInBounds_toArray, List.set_cons_zero, List.set_cons_succ]
          refine wpAnyH_take (i := 45) (oi := ⟨some 220, _, _, _, _, _⟩) (v := ?_) rfl (by kernel_rfl) (by kernel_rfl) (by kernel_rfl) (fun _ _ _ h => h) (Or.inl ⟨by kernel_rfl, ?_⟩) (by assumption) ?_
          rotate_left
          · (intro w hSw; (try dsimp only at hSw); go_simp; all_goals with_reducible rfl)
          try simp only [Act.put, List.setIfInBounds_toArray, List.set_cons_zero, List.set_cons_succ]
          refine wpAnyH_ready (rs := [46]) (by kernel_rfl) (by simp) ?_
          refine AllReadyH.cons rfl (fun K hK => ?_) (AllReadyH.nil)
          go_simp
          go_at_call 11
          refine (baseLowest_is S T y z _ s0 s1 t0 t1 hy2 hz2).mono ?_
          rintro e v4a ⟨rfl, hbv4a⟩
          have zv4a := hbv4a.size
          try simp at zv4a
          have yv4a00 : v4a.cell? ⟨w4.heap.size, 0, none⟩ = some (.int .i64 n0) := by rw [(bcell hbv4a).1 _ _ (by first | (simp; done) | (simp; omega) | omega)]; simp [go_sem, World.cell?_alloc_past, *]
          have yv4a01 : v4a.cell? ⟨w4.heap.size, 1, none⟩ = some (.int .i64 d0) := by rw [(bcell hbv4a).1 _ _ (by first | (simp; done) | (simp; omega) | omega)]; simp [go_sem, World.cell?_alloc_past, *]
          have yv4a02 : v4a.cell? ⟨w4.heap.size, 2, none⟩ = some (.int .i64 n1) := by rw [(bcell hbv4a).1 _ _ (by first | (simp; done) | (simp; omega) | omega)]; simp [go_sem, World.cell?_alloc_past, *]
          have yv4a03 : v4a.cell? ⟨w4.heap.size, 3, none⟩ = some (.int .i64 d1) := by rw [(bcell hbv4a).1 _ _ (by first | (simp; done) | (simp; omega) | omega)]; simp [go_sem, World.cell?_alloc_past, *]
          have yv4a04 : v4a.cell? ⟨w4.heap.size, 4, none⟩ = some (.int .i64 n2) := by rw [(bcell hbv4a).1 _ _ (by first | (simp; done) | (simp; omega) | omega)]; simp [go_sem, World.cell?_alloc_past, *]
          have yv4a05 : v4a.cell? ⟨w4.heap.size, 5, none⟩ = some (.int .i64 d2) := by rw [(bcell hbv4a).1 _ _ (by first | (simp; done) | (simp; omega) | omega)]; simp [go_sem, World.cell?_alloc_past, *]
          have ov4a0 : w4.heap.size < v4a.heap.size := by omega
          have nv4a0 : v4a.heap.size ≠ w4.heap.size := by omega
          have mv4a0 : ¬ v4a.heap.size = w4.heap.size := by omega
          have kv4a0 : ¬ w4.heap.size = v4a.heap.size := by omega
          have tv4a0 : w4.heap.size < v4a.heap.size + 1 := by omega
          have yv4a10 : v4a.cell? ⟨w10.heap.size, 0, none⟩ = some (.int .i64 y) := by rw [(bcell hbv4a).1 _ _ (by first | (simp; done) | (simp; omega) | omega)]; simp [go_sem, World.cell?_alloc_past, *]
          have yv4a11 : v4a.cell? ⟨w10.heap.size, 1, none⟩ = some (.int .i64 z) := by rw [(bcell hbv4a).1 _ _ (by first | (simp; done) | (simp; omega) | omega)]; simp [go_sem, World.cell?_alloc_past, *]
          have ov4a1 : w10.heap.size < v4a.heap.size := by omega
          have nv4a1 : v4a.heap.size ≠ w10.heap.size := by omega
          have mv4a1 : ¬ v4a.heap.size = w10.heap.size := by omega
          have kv4a1 : ¬ w10.heap.size = v4a.heap.size := by omega
          have tv4a1 : w10.heap.size < v4a.heap.size + 1 := by omega
          have yv4a20 : v4a.cell? ⟨v1.heap.size, 0, none⟩ = some (.int .i64 0) := by rw [(bcell hbv4a).1 _ _ (by first | (simp; done) | (simp; omega) | omega)]; simp [go_sem, World.cell?_alloc_past, *]
          have yv4a21 : v4a.cell? ⟨v1.heap.size, 1, none⟩ = some (.int .i64 0) := by rw [(bcell hbv4a).1 _ _ (by first | (simp; done) | (simp; omega) | omega)]; simp [go_sem, World.cell?_alloc_past, *]
          have ov4a2 : v1.heap.size < v4a.heap.size := by omega
          have nv4a2 : v4a.heap.size ≠ v1.heap.size := by omega
          have mv4a2 : ¬ v4a.heap.size = v1.heap.size := by omega
          have kv4a2 : ¬ v1.heap.size = v4a.heap.size := by omega
          have tv4a2 : v1.heap.size < v4a.heap.size + 1 := by omega
          have fv4a : ∀ j, v4a.frozen? ⟨v1.heap.size, j, none⟩ = false := by intro j; rw [(bcell hbv4a).2 _ _ (by first | (simp; done) | (simp; omega) | omega)]; simp [go_sem, *]
          have hBv4a : Below w.heap.size w v4a := (by (repeat (first | (with_reducible refine Below.drew ?_) | (with_reducible refine below_drewN ?_ _) | (with_reducible refine Below.alloc ?_ (by first | omega | (simp; done) | (simp; omega) | (simp at *; omega)) _) | (with_reducible refine Below.setCell ?_ (by first | omega | (simp; done) | (simp; omega) | (simp at *; omega)) _) | (with_reducible exact Below.refl _ _) | (with_reducible assumption) | (with_reducible refine Below.trans ?_ (Below.mono (by assumption) (by first | omega | (simp; done) | (simp; omega) | (simp at *; omega)))))))
          have wbv4a : w.heap.size ≤ v4a.heap.size := by omega
          clear hbv4a
          go_wp2_with fail
          refine hK.out _ _ (by simp [go_sem, World.cell?_alloc_past, *]) (fun hHeld => ?_)
          clear hK K
          try simp only [Act.put, List.setIfInBounds_toArray, List.set_cons_zero, List.set_cons_succ]
          refine wpAnyH_ready (rs := [48]) (by kernel_rfl) (by simp) ?_
          refine AllReadyH.cons rfl (fun K hK => ?_) AllReadyH.nil
          go_simp
          go_wp2_with fail
          refine hK.out _ _ (by simp [go_sem, World.cell?_alloc_past, *]) (fun hHeld => ?_)
          clear hK K
          try simp only [Act.put, List.setIfInBounds_toArray, List.set_cons_zero, List.set_cons_succ]
          refine wpAnyH_done (by kernel_rfl) ?_ _
          have hEq3 := eqFrac4
          go_wp2
          go_ret
          exact ⟨by first | rfl | (simp; done) | (apply ret_bool; simp), (by (repeat (first | (with_reducible refine Below.drew ?_) | (with_reducible refine below_drewN ?_ _) | (with_reducible refine Below.alloc ?_ (by first | omega | (simp; done) | (simp; omega) | (simp at *; omega)) _) | (with_reducible refine Below.setCell ?_ (by first | omega | (simp; done) | (simp; omega) | (simp at *; omega)) _) | (with_reducible exact Below.refl _ _) | (with_reducible assumption) | (with_reducible refine Below.trans ?_ (Below.mono (by assumption) (by first | omega | (simp; done) | (simp; omega) | (simp at *; omega)))))))⟩
      · skip
        go_simp
        go_wp2_with fail
        refine hK.out _ _ (by simp [go_sem, World.cell?_alloc_past, *]) (fun hHeld => ?_)
        clear hK K
        try simp only [Act.put, List.setIfInBounds_toArray, List.set_cons_zero, List.set_cons_succ]
        refine wpAnyH_ready (rs := [12]) (by kernel_rfl) (by simp) ?_
        refine AllReadyH.cons rfl (fun K hK => ?_) (AllReadyH.nil)
        go_simp
        go_at_call 13
        refine (baseGcd_is d0 d1 g _ (by omega) (by omega) (by omega) (by omega) hg).mono ?_
        rintro e v1a ⟨rfl, hbv1a⟩
        have zv1a := hbv1a.size
        try simp at zv1a
        have yv1a00 : v1a.cell? ⟨w4.heap.size, 0, none⟩ = some (.int .i64 n0) := by rw [(bcell hbv1a).1 _ _ (by first | (simp; done) | (simp; omega) | omega)]; simp [go_sem, World.cell?_alloc_past, *]
        have yv1a01 : v1a.cell? ⟨w4.heap.size, 1, none⟩ = some (.int .i64 d0) := by rw [(bcell hbv1a).1 _ _ (by first | (simp; done) | (simp; omega) | omega)]; simp [go_sem, World.cell?_alloc_past, *]
        have yv1a02 : v1a.cell? ⟨w4.heap.size, 2, none⟩ = some (.int .i64 n1) := by rw [(bcell hbv1a).1 _ _ (by first | (simp; done) | (simp; omega) | omega)]; simp [go_sem, World.cell?_alloc_past, *]
        have yv1a03 : v1a.cell? ⟨w4.heap.size, 3, none⟩ = some (.int .i64 d1) := by rw [(bcell hbv1a).1 _ _ (by first | (simp; done) | (simp; omega) | omega)]; simp [go_sem, World.cell?_alloc_past, *]
        have yv1a04 : v1a.cell? ⟨w4.heap.size, 4, none⟩ = some (.int .i64 n2) := by rw [(bcell hbv1a).1 _ _ (by first | (simp; done) | (simp; omega) | omega)]; simp [go_sem, World.cell?_alloc_past, *]
        have yv1a05 : v1a.cell? ⟨w4.heap.size, 5, none⟩ = some (.int .i64 d2) := by rw [(bcell hbv1a).1 _ _ (by first | (simp; done) | (simp; omega) | omega)]; simp [go_sem, World.cell?_alloc_past, *]
        have ov1a0 : w4.heap.size < v1a.heap.size := by omega
        have nv1a0 : v1a.heap.size ≠ w4.heap.size := by omega
        have mv1a0 : ¬ v1a.heap.size = w4.heap.size := by omega
        have kv1a0 : ¬ w4.heap.size = v1a.heap.size := by omega
        have tv1a0 : w4.heap.size < v1a.heap.size + 1 := by omega
        have yv1a10 : v1a.cell? ⟨w10.heap.size, 0, none⟩ = some (.int .i64 y) := by rw [(bcell hbv1a).1 _ _ (by first | (simp; done) | (simp; omega) | omega)]; simp [go_sem, World.cell?_alloc_past, *]
        have yv1a11 : v1a.cell? ⟨w10.heap.size, 1, none⟩ = some (.int .i64 z) := by rw [(bcell hbv1a).1 _ _ (by first | (simp; done) | (simp; omega) | omega)]; simp [go_sem, World.cell?_alloc_past, *]
        have ov1a1 : w10.heap.size < v1a.heap.size := by omega
        have nv1a1 : v1a.heap.size ≠ w10.heap.size := by omega
        have mv1a1 : ¬ v1a.heap.size = w10.heap.size := by omega
        have kv1a1 : ¬ w10.heap.size = v1a.heap.size := by omega
        have tv1a1 : w10.heap.size < v1a.heap.size + 1 := by omega
        have yv1a20 : v1a.cell? ⟨w10.heap.size + 1, 0, none⟩ = some (.int .i64 0) := by rw [(bcell hbv1a).1 _ _ (by first | (simp; done) | (simp; omega) | omega)]; simp [go_sem, World.cell?_alloc_past, *]
        have yv1a21 : v1a.cell? ⟨w10.heap.size + 1, 1, none⟩ = some (.int .i64 0) := by rw [(bcell hbv1a).1 _ _ (by first | (simp; done) | (simp; omega) | omega)]; simp [go_sem, World.cell?_alloc_past, *]
        have ov1a2 : w10.heap.size + 1 < v1a.heap.size := by omega
        have nv1a2 : v1a.heap.size ≠ w10.heap.size + 1 := by omega
        have mv1a2 : ¬ v1a.heap.size = w10.heap.size + 1 := by omega
        have kv1a2 : ¬ w10.heap.size + 1 = v1a.heap.size := by omega
        have tv1a2 : w10.heap.size + 1 < v1a.heap.size + 1 := by omega
        have fv1a : ∀ j, v1a.frozen? ⟨w10.heap.size + 1, j, none⟩ = false := by intro j; rw [(bcell hbv1a).2 _ _ (by first | (simp; done) | (simp; omega) | omega)]; simp [go_sem, *]
        have hBv1a : Below w.heap.size w v1a := (by (repeat (first | (with_reducible refine Below.drew ?_) | (with_reducible refine below_drewN ?_ _) | (with_reducible refine Below.alloc ?_ (by first | omega | (simp; done) | (simp; omega) | (simp at *; omega)) _) | (with_reducible refine Below.setCell ?_ (by first | omega | (simp; done) | (simp; omega) | (simp at *; omega)) _) | (with_reducible exact Below.refl _ _) | (with_reducible assumption) | (with_reducible refine Below.trans ?_ (Below.mono (by assumption) (by first | omega | (simp; done) | (simp; omega) | (simp at *; omega)))))))
        have wbv1a : w.heap.size ≤ v1a.heap.size := by omega
        clear hbv1a
        go_wp2_with fail
        refine hK.out _ _ (by simp [go_sem, World.cell?_alloc_past, *]) (fun hHeld => ?_)
        clear hK K
        try simp only [Act.put, List.setIfInBounds_toArray, List.set_cons_zero, List.set_cons_succ]
        refine wpAnyH_take (i := 13) (oi := ⟨some 188, _, _, _, _, _⟩) (v := ?_) rfl (by kernel_rfl) (by kernel_rfl) (by kernel_rfl) (fun _ _ _ h => h) (Or.inl ⟨by kernel_rfl, ?_⟩) (by assumption) ?_
        rotate_left
        · (intro w hSw; (try dsimp only at hSw); go_simp; all_goals with_reducible rfl)
        try simp only [Act.put, List.setIfInBounds_toArray, List.set_cons_zero, List.set_cons_succ]
        refine wpAnyH_take (i := 14) (oi := ⟨some 189, _, _, _, _, _⟩) (v := ?_) rfl (by kernel_rfl) (by kernel_rfl) (by kernel_rfl) (fun _ _ _ h => h) (Or.inl ⟨by kernel_rfl, ?_⟩) (by assumption) ?_
        rotate_left
        · (intro w hSw; (try dsimp only at hSw); go_simp; all_goals with_reducible rfl)
        try simp only [Act.put, List.setIfInBounds_toArray, List.set_cons_zero, List.set_cons_succ]
        refine wpAnyH_ready (rs := [27]) (by kernel_rfl) (by simp) ?_
        refine AllReadyH.cons rfl (fun K hK => ?_) (AllReadyH.nil)
        go_simp
        go_at_call 13
        refine (baseGcd_is d0 d1 g _ (by omega) (by omega) (by omega) (by omega) hg).mono ?_
        rintro e v2a ⟨rfl, hbv2a⟩
        have zv2a := hbv2a.size
        try simp at zv2a
        have yv2a00 : v2a.cell? ⟨w4.heap.size, 0, none⟩ = some (.int .i64 n0) := by rw [(bcell hbv2a).1 _ _ (by first | (simp; done) | (simp; omega) | omega)]; simp [go_sem, World.cell?_alloc_past, *]
        have yv2a01 : v2a.cell? ⟨w4.heap.size, 1, none⟩ = some (.int .i64 d0) := by rw [(bcell hbv2a).1 _ _ (by first | (simp; done) | (simp; omega) | omega)]; simp [go_sem, World.cell?_alloc_past, *]
        have yv2a02 : v2a.cell? ⟨w4.heap.size, 2, none⟩ = some (.int .i64 n1) := by rw [(bcell hbv2a).1 _ _ (by first | (simp; done) | (simp; omega) | omega)]; simp [go_sem, World.cell?_alloc_past, *]
        have yv2a03 : v2a.cell? ⟨w4.heap.size, 3, none⟩ = some (.int .i64 d1) := by rw [(bcell hbv2a).1 _ _ (by first | (simp; done) | (simp; omega) | omega)]; simp [go_sem, World.cell?_alloc_past, *]
        have yv2a04 : v2a.cell? ⟨w4.heap.size, 4, none⟩ = some (.int .i64 n2) := by rw [(bcell hbv2a).1 _ _ (by first | (simp; done) | (simp; omega) | omega)]; simp [go_sem, World.cell?_alloc_past, *]
        have yv2a05 : v2a.cell? ⟨w4.heap.size, 5, none⟩ = some (.int .i64 d2) := by rw [(bcell hbv2a).1 _ _ (by first | (simp; done) | (simp; omega) | omega)]; simp [go_sem, World.cell?_alloc_past, *]
        have ov2a0 : w4.heap.size < v2a.heap.size := by omega
        have nv2a0 : v2a.heap.size ≠ w4.heap.size := by omega
        have mv2a0 : ¬ v2a.heap.size = w4.heap.size := by omega
        have kv2a0 : ¬ w4.heap.size = v2a.heap.size := by omega
        have tv2a0 : w4.heap.size < v2a.heap.size + 1 := by omega
        have yv2a10 : v2a.cell? ⟨w10.heap.size, 0, none⟩ = some (.int .i64 y) := by rw [(bcell hbv2a).1 _ _ (by first | (simp; done) | (simp; omega) | omega)]; simp [go_sem, World.cell?_alloc_past, *]
        have yv2a11 : v2a.cell? ⟨w10.heap.size, 1, none⟩ = some (.int .i64 z) := by rw [(bcell hbv2a).1 _ _ (by first | (simp; done) | (simp; omega) | omega)]; simp [go_sem, World.cell?_alloc_past, *]
        have ov2a1 : w10.heap.size < v2a.heap.size := by omega
        have nv2a1 : v2a.heap.size ≠ w10.heap.size := by omega
        have mv2a1 : ¬ v2a.heap.size = w10.heap.size := by omega
        have kv2a1 : ¬ w10.heap.size = v2a.heap.size := by omega
        have tv2a1 : w10.heap.size < v2a.heap.size + 1 := by omega
        have yv2a20 : v2a.cell? ⟨w10.heap.size + 1, 0, none⟩ = some (.int .i64 0) := by rw [(bcell hbv2a).1 _ _ (by first | (simp; done) | (simp; omega) | omega)]; simp [go_sem, World.cell?_alloc_past, *]
        have yv2a21 : v2a.cell? ⟨w10.heap.size + 1, 1, none⟩ = some (.int .i64 0) := by rw [(bcell hbv2a).1 _ _ (by first | (simp; done) | (simp; omega) | omega)]; simp [go_sem, World.cell?_alloc_past, *]
        have ov2a2 : w10.heap.size + 1 < v2a.heap.size := by omega
        have nv2a2 : v2a.heap.size ≠ w10.heap.size + 1 := by omega
        have mv2a2 : ¬ v2a.heap.size = w10.heap.size + 1 := by omega
        have kv2a2 : ¬ w10.heap.size + 1 = v2a.heap.size := by omega
        have tv2a2 : w10.heap.size + 1 < v2a.heap.size + 1 := by omega
        have fv2a : ∀ j, v2a.frozen? ⟨w10.heap.size + 1, j, none⟩ = false := by intro j; rw [(bcell hbv2a).2 _ _ (by first | (simp; done) | (simp; omega) | omega)]; simp [go_sem, *]
        have hBv2a : Below w.heap.size w v2a := (by (repeat (first | (with_reducible refine Below.drew ?_) | (with_reducible refine below_drewN ?_ _) | (with_reducible refine Below.alloc ?_ (by first | omega | (simp; done) | (simp; omega) | (simp at *; omega)) _) | (with_reducible refine Below.setCell ?_ (by first | omega | (simp; done) | (simp; omega) | (simp at *; omega)) _) | (with_reducible exact Below.refl _ _) | (with_reducible assumption) | (with_reducible refine Below.trans ?_ (Below.mono (by assumption) (by first | omega | (simp; done) | (simp; omega) | (simp at *; omega)))))))
        have wbv2a : w.heap.size ≤ v2a.heap.size := by omega
        clear hbv2a
        go_wp2_with fail
        refine hK.out _ _ (by simp [go_sem, World.cell?_alloc_past, *]) (fun hHeld => ?_)
        clear hK K
        try simp only [Act.put, List.setIfInBounds_toArray, List.set_cons_zero, List.set_cons_succ]
        refine wpAnyH_take (i := 28) (oi := ⟨some 203, _, _, _, _, _⟩) (v := ?_) rfl (by kernel_rfl) (by kernel_rfl) (by kernel_rfl) (fun _ _ _ h => h) (Or.inl ⟨by kernel_rfl, ?_⟩) (by assumption) ?_
        rotate_left
        · (intro w hSw; (try dsimp only at hSw); go_simp; all_goals with_reducible rfl)
        try simp only [Act.put, List.setIfInBounds_toArray, List.set_cons_zero, List.set_cons_succ]
        refine wpAnyH_take (i := 29) (oi := ⟨some 204, _, _, _, _, _⟩) (v := ?_) rfl (by kernel_rfl) (by kernel_rfl) (by kernel_rfl) (fun _ _ _ h => h) (Or.inl ⟨by kernel_rfl, ?_⟩) (by assumption) ?_
        rotate_left
        · (intro w hSw; (try dsimp only at hSw); go_simp; all_goals with_reducible rfl)
        try simp only [Act.put, List.setIfInBounds_toArray, List.set_cons_zero, List.set_cons_succ]
        refine wpAnyH_take (i := 30) (oi := ⟨some 205, _, _, _, _, _⟩) (v := ?_) rfl (by kernel_rfl) (by kernel_rfl) (by kernel_rfl) (fun _ _ _ h => h) (Or.inl ⟨by kernel_rfl, ?_⟩) (by assumption) ?_
        rotate_left
        · (intro w hSw; (try dsimp only at hSw); go_simp; all_goals with_reducible rfl)
        try simp only [Act.put, List.setIfInBounds_toArray, List.set_cons_zero, List.set_cons_succ]
        refine wpAnyH_ready (rs := [40]) (by kernel_rfl) (by simp) ?_
        refine AllReadyH.cons rfl (fun K hK => ?_) (AllReadyH.nil)
        go_simp
        go_at_call 13
        refine (baseGcd_is d0 d1 g _ (by omega) (by omega) (by omega) (by omega) hg).mono ?_
        rintro e v3a ⟨rfl, hbv3a⟩
        have zv3a := hbv3a.size
        try simp at zv3a
        have yv3a00 : v3a.cell? ⟨w4.heap.size, 0, none⟩ = some (.int .i64 n0) := by rw [(bcell hbv3a).1 _ _ (by first | (simp; done) | (simp; omega) | omega)]; simp [go_sem, World.cell?_alloc_past, *]
        have yv3a01 : v3a.cell? ⟨w4.heap.size, 1, none⟩ = some (.int .i64 d0) := by rw [(bcell hbv3a).1 _ _ (by first | (simp; done) | (simp; omega) | omega)]; simp [go_sem, World.cell?_alloc_past, *]
        have yv3a02 : v3a.cell? ⟨w4.heap.size, 2, none⟩ = some (.int .i64 n1) := by rw [(bcell hbv3a).1 _ _ (by first | (simp; done) | (simp; omega) | omega)]; simp [go_sem, World.cell?_alloc_past, *]
        have yv3a03 : v3a.cell? ⟨w4.heap.size, 3, none⟩ = some (.int .i64 d1) := by rw [(bcell hbv3a).1 _ _ (by first | (simp; done) | (simp; omega) | omega)]; simp [go_sem, World.cell?_alloc_past, *]
        have yv3a04 : v3a.cell? ⟨w4.heap.size, 4, none⟩ = some (.int .i64 n2) := by rw [(bcell hbv3a).1 _ _ (by first | (simp; done) | (simp; omega) | omega)]; simp [go_sem, World.cell?_alloc_past, *]
        have yv3a05 : v3a.cell? ⟨w4.heap.size, 5, none⟩ = some (.int .i64 d2) := by rw [(bcell hbv3a).1 _ _ (by first | (simp; done) | (simp; omega) | omega)]; simp [go_sem, World.cell?_alloc_past, *]
        have ov3a0 : w4.heap.size < v3a.heap.size := by omega
        have nv3a0 : v3a.heap.size ≠ w4.heap.size := by omega
        have mv3a0 : ¬ v3a.heap.size = w4.heap.size := by omega
        have kv3a0 : ¬ w4.heap.size = v3a.heap.size := by omega
        have tv3a0 : w4.heap.size < v3a.heap.size + 1 := by omega
        have yv3a10 : v3a.cell? ⟨w10.heap.size, 0, none⟩ = some (.int .i64 y) := by rw [(bcell hbv3a).1 _ _ (by first | (simp; done) | (simp; omega) | omega)]; simp [go_sem, World.cell?_alloc_past, *]
        have yv3a11 : v3a.cell? ⟨w10.heap.size, 1, none⟩ = some (.int .i64 z) := by rw [(bcell hbv3a).1 _ _ (by first | (simp; done) | (simp; omega) | omega)]; simp [go_sem, World.cell?_alloc_past, *]
        have ov3a1 : w10.heap.size < v3a.heap.size := by omega
        have nv3a1 : v3a.heap.size ≠ w10.heap.size := by omega
        have mv3a1 : ¬ v3a.heap.size = w10.heap.size := by omega
        have kv3a1 : ¬ w10.heap.size = v3a.heap.size := by omega
        have tv3a1 : w10.heap.size < v3a.heap.size + 1 := by omega
        have yv3a20 : v3a.cell? ⟨w10.heap.size + 1, 0, none⟩ = some (.int .i64 0) := by rw [(bcell hbv3a).1 _ _ (by first | (simp; done) | (simp; omega) | omega)]; simp [go_sem, World.cell?_alloc_past, *]
        have yv3a21 : v3a.cell? ⟨w10.heap.size + 1, 1, none⟩ = some (.int .i64 0) := by rw [(bcell hbv3a).1 _ _ (by first | (simp; done) | (simp; omega) | omega)]; simp [go_sem, World.cell?_alloc_past, *]
        have ov3a2 : w10.heap.size + 1 < v3a.heap.size := by omega
        have nv3a2 : v3a.heap.size ≠ w10.heap.size + 1 := by omega
        have mv3a2 : ¬ v3a.heap.size = w10.heap.size + 1 := by omega
        have kv3a2 : ¬ w10.heap.size + 1 = v3a.heap.size := by omega
        have tv3a2 : w10.heap.size + 1 < v3a.heap.size + 1 := by omega
        have fv3a : ∀ j, v3a.frozen? ⟨w10.heap.size + 1, j, none⟩ = false := by intro j; rw [(bcell hbv3a).2 _ _ (by first | (simp; done) | (simp; omega) | omega)]; simp [go_sem, *]
        have hBv3a : Below w.heap.size w v3a := (by (repeat (first | (with_reducible refine Below.drew ?_) | (with_reducible refine below_drewN ?_ _) | (with_reducible refine Below.alloc ?_ (by first | omega | (simp; done) | (simp; omega) | (simp at *; omega)) _) | (with_reducible refine Below.setCell ?_ (by first | omega | (simp; done) | (simp; omega) | (simp at *; omega)) _) | (with_reducible exact Below.refl _ _) | (with_reducible assumption) | (with_reducible refine Below.trans ?_ (Below.mono (by assumption) (by first | omega | (simp; done) | (simp; omega) | (simp at *; omega)))))))
        have wbv3a : w.heap.size ≤ v3a.heap.size := by omega
        clear hbv3a
        go_wp2_with fail
        refine hK.out _ _ (by simp [go_sem, World.cell?_alloc_past, *]) (fun hHeld => ?_)
        clear hK K
        try simp only [Act.put, List.setIfInBounds_toArray, List.set_cons_zero, List.set_cons_succ]
        refine wpAnyH_take (i := 41) (oi := ⟨some 216, _, _, _, _, _⟩) (v := ?_) rfl (by kernel_rfl) (by kernel_rfl) (by kernel_rfl) (fun _ _ _ h => h) (Or.inl ⟨by kernel_rfl, ?_⟩) (by assumption) ?_
        rotate_left
        · (intro w hSw; (try dsimp only at hSw); go_simp; all_goals with_reducible rfl)
        try simp only [Act.put, List.setIfInBounds_toArray, List.set_cons_zero, List.set_cons_succ]
        refine wpAnyH_take (i := 45) (oi := ⟨some 220, _, _, _, _, _⟩) (v := ?_) rfl (by kernel_rfl) (by kernel_rfl) (by kernel_rfl) (fun _ _ _ h => h) (Or.inl ⟨by kernel_rfl, ?_⟩) (by assumption) ?_
        rotate_left
        · (intro w hSw; (try dsimp only at hSw); go_simp; all_goals with_reducible rfl)
        try simp only [Act.put, List.setIfInBounds_toArray, List.set_cons_zero, List.set_cons_succ]
        refine wpAnyH_ready (rs := [46]) (by kernel_rfl) (by simp) ?_
        refine AllReadyH.cons rfl (fun K hK => ?_) (AllReadyH.nil)
        go_simp
        go_at_call 11
        refine (baseLowest_is S T y z _ s0 s1 t0 t1 hy2 hz2).mono ?_
        rintro e v4a ⟨rfl, hbv4a⟩
        have zv4a := hbv4a.size
        try simp at zv4a
        have yv4a00 : v4a.cell? ⟨w4.heap.size, 0, none⟩ = some (.int .i64 n0) := by rw [(bcell hbv4a).1 _ _ (by first | (simp; done) | (simp; omega) | omega)]; simp [go_sem, World.cell?_alloc_past, *]
        have yv4a01 : v4a.cell? ⟨w4.heap.size, 1, none⟩ = some (.int .i64 d0) := by rw [(bcell hbv4a).1 _ _ (by first | (simp; done) | (simp; omega) | omega)]; simp [go_sem, World.cell?_alloc_past, *]
        have yv4a02 : v4a.cell? ⟨w4.heap.size, 2, none⟩ = some (.int .i64 n1) := by rw [(bcell hbv4a).1 _ _ (by first | (simp; done) | (simp; omega) | omega)]; simp [go_sem, World.cell?_alloc_past, *]
        have yv4a03 : v4a.cell? ⟨w4.heap.size, 3, none⟩ = some (.int .i64 d1) := by rw [(bcell hbv4a).1 _ _ (by first | (simp; done) | (simp; omega) | omega)]; simp [go_sem, World.cell?_alloc_past, *]
        have yv4a04 : v4a.cell? ⟨w4.heap.size, 4, none⟩ = some (.int .i64 n2) := by rw [(bcell hbv4a).1 _ _ (by first | (simp; done) | (simp; omega) | omega)]; simp [go_sem, World.cell?_alloc_past, *]
        have yv4a05 : v4a.cell? ⟨w4.heap.size, 5, none⟩ = some (.int .i64 d2) := by rw [(bcell hbv4a).1 _ _ (by first | (simp; done) | (simp; omega) | omega)]; simp [go_sem, World.cell?_alloc_past, *]
        have ov4a0 : w4.heap.size < v4a.heap.size := by omega
        have nv4a0 : v4a.heap.size ≠ w4.heap.size := by omega
        have mv4a0 : ¬ v4a.heap.size = w4.heap.size := by omega
        have kv4a0 : ¬ w4.heap.size = v4a.heap.size := by omega
        have tv4a0 : w4.heap.size < v4a.heap.size + 1 := by omega
        have yv4a10 : v4a.cell? ⟨w10.heap.size, 0, none⟩ = some (.int .i64 y) := by rw [(bcell hbv4a).1 _ _ (by first | (simp; done) | (simp; omega) | omega)]; simp [go_sem, World.cell?_alloc_past, *]
        have yv4a11 : v4a.cell? ⟨w10.heap.size, 1, none⟩ = some (.int .i64 z) := by rw [(bcell hbv4a).1 _ _ (by first | (simp; done) | (simp; omega) | omega)]; simp [go_sem, World.cell?_alloc_past, *]
        have ov4a1 : w10.heap.size < v4a.heap.size := by omega
        have nv4a1 : v4a.heap.size ≠ w10.heap.size := by omega
        have mv4a1 : ¬ v4a.heap.size = w10.heap.size := by omega
        have kv4a1 : ¬ w10.heap.size = v4a.heap.size := by omega
        have tv4a1 : w10.heap.size < v4a.heap.size + 1 := by omega
        have yv4a20 : v4a.cell? ⟨w10.heap.size + 1, 0, none⟩ = some (.int .i64 0) := by rw [(bcell hbv4a).1 _ _ (by first | (simp; done) | (simp; omega) | omega)]; simp [go_sem, World.cell?_alloc_past, *]
        have yv4a21 : v4a.cell? ⟨w10.heap.size + 1, 1, none⟩ = some (.int .i64 0) := by rw [(bcell hbv4a).1 _ _ (by first | (simp; done) | (simp; omega) | omega)]; simp [go_sem, World.cell?_alloc_past, *]
        have ov4a2 : w10.heap.size + 1 < v4a.heap.size := by omega
        have nv4a2 : v4a.heap.size ≠ w10.heap.size + 1 := by omega
        have mv4a2 : ¬ v4a.heap.size = w10.heap.size + 1 := by omega
        have kv4a2 : ¬ w10.heap.size + 1 = v4a.heap.size := by omega
        have tv4a2 : w10.heap.size + 1 < v4a.heap.size + 1 := by omega
        have fv4a : ∀ j, v4a.frozen? ⟨w10.heap.size + 1, j, none⟩ = false := by intro j; rw [(bcell hbv4a).2 _ _ (by first | (simp; done) | (simp; omega) | omega)]; simp [go_sem, *]
        have hBv4a : Below w.heap.size w v4a := (by (repeat (first | (with_reducible refine Below.drew ?_) | (with_reducible refine below_drewN ?_ _) | (with_reducible refine Below.alloc ?_ (by first | omega | (simp; done) | (simp; omega) | (simp at *; omega)) _) | (with_reducible refine Below.setCell ?_ (by first | omega | (simp; done) | (simp; omega) | (simp at *; omega)) _) | (with_reducible exact Below.refl _ _) | (with_reducible assumption) | (with_reducible refine Below.trans ?_ (Below.mono (by assumption) (by first | omega | (simp; done) | (simp; omega) | (simp at *; omega)))))))
        have wbv4a : w.heap.size ≤ v4a.heap.size := by omega
        clear hbv4a
        go_wp2_with fail
        refine hK.out _ _ (by simp [go_sem, World.cell?_alloc_past, *]) (fun hHeld => ?_)
        clear hK K
        try simp only [Act.put, List.setIfInBounds_toArray, List.set_cons_zero, List.set_cons_succ]
        refine wpAnyH_ready (rs := [48]) (by kernel_rfl) (by simp) ?_
        refine AllReadyH.cons rfl (fun K hK => ?_) AllReadyH.nil
        go_simp
        go_wp2_with fail
        refine hK.out _ _ (by simp [go_sem, World.cell?_alloc_past, *]) (fun hHeld => ?_)
        clear hK K
        try simp only [Act.put, List.setIfInBounds_toArray, List.set_cons_zero, List.set_cons_succ]
        refine wpAnyH_done (by kernel_rfl) ?_ _
        have hEq3 := eqFrac4
        go_wp2
        go_ret
        exact ⟨by first | rfl | (simp; done) | (apply ret_bool; simp), (by (repeat (first | (with_reducible refine Below.drew ?_) | (with_reducible refine below_drewN ?_ _) | (with_reducible refine Below.alloc ?_ (by first | omega | (simp; done) | (simp; omega) | (simp at *; omega)) _) | (with_reducible refine Below.setCell ?_ (by first | omega | (simp; done) | (simp; omega) | (simp at *; omega)) _) | (with_reducible exact Below.refl _ _) | (with_reducible assumption) | (with_reducible refine Below.trans ?_ (Below.mono (by assumption) (by first | omega | (simp; done) | (simp; omega) | (simp at *; omega)))))))⟩
    · have hk' : k < P.length := hk
      rw [show (((k + 1 : Nat) : Int) - 1) = (k : Int) by omega]
      obtain ⟨c0, c1, c2⟩ := HP.out.below hB hlt0 k hk'
      obtain ⟨po, ho⟩ : ∃ x, Hid (P[k].o = x) := ⟨P[k].o, rfl⟩
      obtain ⟨ph, hh⟩ : ∃ x, Hid (P[k].h = x) := ⟨P[k].h, rfl⟩
      obtain ⟨pa, ha⟩ : ∃ x, Hid (P[k].a = x) := ⟨P[k].a, rfl⟩
      rw [ho.out] at c0
      rw [hh.out] at c1
      rw [ha.out] at c2
      have HR := Lib.hid (pcs_rev hk')
      have L0 := Lib.hid (lowF_drop Part.o hk')
      have L1 := Lib.hid (lowF_drop Part.h hk')
      have G0 := Lib.hid (highF_drop Part.o hk')
      have G1 := Lib.hid (highF_drop Part.h hk')
      obtain ⟨u0, e0⟩ : ∃ x, Hid (lowF Part.o (P.drop (k + 1)) = x) := ⟨_, rfl⟩
      obtain ⟨u1, e1⟩ : ∃ x, Hid (lowF Part.h (P.drop (k + 1)) = x) := ⟨_, rfl⟩
      obtain ⟨v0, f0⟩ : ∃ x, Hid (highF Part.o (P.drop (k + 1)) = x) := ⟨_, rfl⟩
      obtain ⟨v1, f1⟩ : ∃ x, Hid (highF Part.h (P.drop (k + 1)) = x) := ⟨_, rfl⟩
      rw [e0.out] at l0
      rw [e1.out] at l1
      rw [f0.out] at g0
      rw [f1.out] at g1
      have hbs := hB.size
      have nb : b0 < wr.heap.size := by omega
      have nb2 : wr.heap.size ≠ b0 := by omega
      have ek : IntKind.i64.wrap ((k : Int) - 1) = (k : Int) - 1 := IntWalk.i64_in _ (by omega)
      go_wp2_with (at_builtin; refine wpList_append_own_at _ rfl _ _ 22 rfl (w4.heap.size + 3) 37 i0 (.agg #[.int .i64 0, .int .i64 0, .int .i64 0]) 3 24 Tryd.underlying22 HI.out HZ0.out HZ1.out HZ2.out rfl (by decide) _ _ _ rfl (HO.out.alloc _) ⟨wr.heap.size, 0, none⟩ 1 1 [.int .i64 po, .int .i64 ph, .int .i64 pa] rfl rfl (cells3 _ _ _ _ _) ?c1 ?c2 ?c3 ?c4 ?_)
      case c1 => intro u hu; simp at hu; rcases hu with rfl | rfl | rfl <;> rfl
      case c2 => unfold maxLen; omega
      case c3 => omega
      case c4 => simp; omega
      intro v' w5 hown hgrow hnn hblk
      have hB5s : Below (w4.heap.size + 3) wr w5 := ((Below.refl (w4.heap.size + 3) wr).alloc (by omega) _).grown hgrow (by simp; omega) (own_block HO.out)
      have hB5 : Below w.heap.size w w5 := hB.trans (hB5s.mono (by omega))
      have s5 := hB5s.size
      obtain ⟨hc5, hf5⟩ := bcellB hB5s
      have HOW : Hid (w5.ownsRow (w4.heap.size + 3) 37 3 v' (P.length - k) (pcs (P.drop k).reverse)) := by
        show World.ownsRow _ _ _ _ _ _ _
        rw [ho.out, hh.out, ha.out] at HR
        rw [← HR.out, show P.length - k = P.length - (k + 1) + 1 by omega]
        exact hown
      have c05 : w5.cell? ⟨b0, off + k * 3, none⟩ = some (.int .i64 po) := by rw [hc5 _ _ (by omega)]; exact c0
      have c15 : w5.cell? ⟨b0, off + k * 3 + 1, none⟩ = some (.int .i64 ph) := by rw [hc5 _ _ (by omega)]; exact c1
      have c25 : w5.cell? ⟨b0, off + k * 3 + 2, none⟩ = some (.int .i64 pa) := by rw [hc5 _ _ (by omega)]; exact c2
      have x05 : w5.cell? ⟨w4.heap.size, 0, none⟩ = some (.int .i64 n0) := by rw [hc5 _ _ (by omega)]; exact x0
      have x15 : w5.cell? ⟨w4.heap.size, 1, none⟩ = some (.int .i64 d0) := by rw [hc5 _ _ (by omega)]; exact x1
      have x25 : w5.cell? ⟨w4.heap.size, 2, none⟩ = some (.int .i64 n1) := by rw [hc5 _ _ (by omega)]; exact x2
      have x35 : w5.cell? ⟨w4.heap.size, 3, none⟩ = some (.int .i64 d1) := by rw [hc5 _ _ (by omega)]; exact x3
      have x45 : w5.cell? ⟨w4.heap.size, 4, none⟩ = some (.int .i64 n2) := by rw [hc5 _ _ (by omega)]; exact x4
      have x55 : w5.cell? ⟨w4.heap.size, 5, none⟩ = some (.int .i64 d2) := by rw [hc5 _ _ (by omega)]; exact x5
      have l05 : w5.cell? ⟨w4.heap.size + 1, 0, none⟩ = some (.int .i64 u0) := by rw [hc5 _ _ (by omega)]; exact l0
      have l15 : w5.cell? ⟨w4.heap.size + 1, 1, none⟩ = some (.int .i64 u1) := by rw [hc5 _ _ (by omega)]; exact l1
      have g05 : w5.cell? ⟨w4.heap.size + 2, 0, none⟩ = some (.int .i64 v0) := by rw [hc5 _ _ (by omega)]; exact g0
      have g15 : w5.cell? ⟨w4.heap.size + 2, 1, none⟩ = some (.int .i64 v1) := by rw [hc5 _ _ (by omega)]; exact g1
      have fl5 : ∀ j, w5.frozen? ⟨w4.heap.size + 1, j, none⟩ = false := fun j => by rw [hf5 _ _ (by omega)]; exact fl j
      have fh5 : ∀ j, w5.frozen? ⟨w4.heap.size + 2, j, none⟩ = false := fun j => by rw [hf5 _ _ (by omega)]; exact fh j
      have nb5 : b0 < w5.heap.size := by omega
      have nbX : b0 ≠ w4.heap.size := by omega
      have nbX1 : b0 ≠ w4.heap.size + 1 := by omega
      have nbX2 : b0 ≠ w4.heap.size + 2 := by omega
      have mX1 : ¬ w4.heap.size + 1 = b0 := by omega
      have mX2 : ¬ w4.heap.size + 2 = b0 := by omega
      have sX0 : w4.heap.size < w5.heap.size := by omega
      have sX1 : w4.heap.size + 1 < w5.heap.size := by omega
      have sX2 : w4.heap.size + 2 < w5.heap.size := by omega
      clear hown hgrow hnn hblk hc5 hf5 c0 c1 c2 x0 x1 x2 x3 x4 x5 l0 l1 g0 g1 fl fh HO hB5s
      go_wp2
      go_still_tail 19, (by kernel_rfl)
      change wpList _ _ _ _ _ w5.drew
      go_wp2
      obtain ⟨w6, hw6⟩ : ∃ z, Hid (((w5.setCell ⟨w4.heap.size + 1, 0, none⟩ (.int .i64 (min u0 po))).setCell ⟨w4.heap.size + 1, 1, none⟩ (.int .i64 (min u1 ph))).drew = z) := ⟨_, rfl⟩
      have s6 : w6.heap.size = w5.heap.size := by rw [← hw6.out]; simp
      have hB6 : Below w.heap.size w w6 := by
        rw [← hw6.out]
        (repeat (first | (with_reducible refine Below.drew ?_) | (with_reducible refine below_drewN ?_ _) | (with_reducible refine Below.alloc ?_ (by first | omega | (simp; done) | (simp; omega) | (simp at *; omega)) _) | (with_reducible refine Below.setCell ?_ (by first | omega | (simp; done) | (simp; omega) | (simp at *; omega)) _) | (with_reducible exact Below.refl _ _) | (with_reducible assumption) | (with_reducible refine Below.trans ?_ (Below.mono (by assumption) (by first | omega | (simp; done) | (simp; omega) | (simp at *; omega))))))
      have HO6 : Hid (w6.ownsRow (w4.heap.size + 3) 37 3 v' (P.length - k) (pcs (P.drop k).reverse)) := by
        show World.ownsRow _ _ _ _ _ _ _
        rw [← hw6.out]
        exact (ownsRow_setCell_below (ownsRow_setCell_below HOW.out (by first | (simp; done) | (simp; omega)) _) (by first | (simp; done) | (simp; omega)) _).drew
      have dd0 : w6.cell? ⟨b0, off + k * 3, none⟩ = some (.int .i64 po) := by rw [← hw6.out]; simp [go_sem, c05, mX1]
      have dd1 : w6.cell? ⟨b0, off + k * 3 + 1, none⟩ = some (.int .i64 ph) := by rw [← hw6.out]; simp [go_sem, c15, mX1]
      have dd2 : w6.cell? ⟨b0, off + k * 3 + 2, none⟩ = some (.int .i64 pa) := by rw [← hw6.out]; simp [go_sem, c25, mX1]
      have x06 : w6.cell? ⟨w4.heap.size, 0, none⟩ = some (.int .i64 n0) := by rw [← hw6.out]; simp [go_sem, x05]
      have x16 : w6.cell? ⟨w4.heap.size, 1, none⟩ = some (.int .i64 d0) := by rw [← hw6.out]; simp [go_sem, x15]
      have x26 : w6.cell? ⟨w4.heap.size, 2, none⟩ = some (.int .i64 n1) := by rw [← hw6.out]; simp [go_sem, x25]
      have x36 : w6.cell? ⟨w4.heap.size, 3, none⟩ = some (.int .i64 d1) := by rw [← hw6.out]; simp [go_sem, x35]
      have x46 : w6.cell? ⟨w4.heap.size, 4, none⟩ = some (.int .i64 n2) := by rw [← hw6.out]; simp [go_sem, x45]
      have x56 : w6.cell? ⟨w4.heap.size, 5, none⟩ = some (.int .i64 d2) := by rw [← hw6.out]; simp [go_sem, x55]
      have l06 : w6.cell? ⟨w4.heap.size + 1, 0, none⟩ = some (.int .i64 (min u0 po)) := by rw [← hw6.out]; simp [go_sem, l05, l15]
      have l16 : w6.cell? ⟨w4.heap.size + 1, 1, none⟩ = some (.int .i64 (min u1 ph)) := by rw [← hw6.out]; simp [go_sem, l05, l15]
      have g06 : w6.cell? ⟨w4.heap.size + 2, 0, none⟩ = some (.int .i64 v0) := by rw [← hw6.out]; simp [go_sem, g05]
      have g16 : w6.cell? ⟨w4.heap.size + 2, 1, none⟩ = some (.int .i64 v1) := by rw [← hw6.out]; simp [go_sem, g15]
      have fl6 : ∀ j, w6.frozen? ⟨w4.heap.size + 1, j, none⟩ = false := fun j => by rw [← hw6.out]; simp [go_sem, fl5]
      have fh6 : ∀ j, w6.frozen? ⟨w4.heap.size + 2, j, none⟩ = false := fun j => by rw [← hw6.out]; simp [go_sem, fh5]
      rw [hw6.out]
      rw [← s6] at nb5 sX0 sX1 sX2 s5
      clear c05 c15 c25 x05 x15 x25 x35 x45 x55 l05 l15 g05 g15 fl5 fh5 HOW hB5
      go_still_tail 19, (by kernel_rfl)
      change wpList _ _ _ _ _ w6.drew
      go_wp2
      go_roundw
      case rel =>
        refine ⟨k, _, rfl, by omega, rfl, ?r0, (by (repeat (first | (with_reducible refine Below.drew ?_) | (with_reducible refine below_drewN ?_ _) | (with_reducible refine Below.alloc ?_ (by first | omega | (simp; done) | (simp; omega) | (simp at *; omega)) _) | (with_reducible refine Below.setCell ?_ (by first | omega | (simp; done) | (simp; omega) | (simp at *; omega)) _) | (with_reducible exact Below.refl _ _) | (with_reducible assumption) | (with_reducible refine Below.trans ?_ (Below.mono (by assumption) (by first | omega | (simp; done) | (simp; omega) | (simp at *; omega))))))), by simp; omega, ?r3, ?r4, ?r5, ?r6, ?r7, ?r8, ?r9, ?s0, ?s1, ?s2, ?t1, ?t2⟩
        case r9 => rw [L0.out, e0.out, ho.out]; simp [go_sem, l06]
        case s0 => rw [L1.out, e1.out, hh.out]; simp [go_sem, l16]
        case s1 => rw [G0.out, f0.out, ho.out]; simp [go_sem, g06, g16]
        case s2 => rw [G1.out, f1.out, hh.out]; simp [go_sem, g06, g16]
        case t1 => intro j; simp [go_sem, fl6]
        case t2 => intro j; simp [go_sem, fh6]
        case r0 => exact (ownsRow_setCell_below (ownsRow_setCell_below HO6.out (by first | (simp; done) | (simp; omega)) _) (by first | (simp; done) | (simp; omega)) _).drew
        all_goals simp [go_sem, x06, x16, x26, x36, x46, x56]
      case measure => (simp [intOf]) <;> omega
  
end Go.Proofs.YtlhogcbodgimdaaDoor
