/- The walk of shotlinelaw01.GasBetween where the mixture's numbers are too large. -/
import Derived.Test.YtlhogcbodgimdaaDoorLawBetween
namespace Go.Proofs.YtlhogcbodgimdaaDoor
open Go.ChangeShapes Go.WideShapes Go.ChangeAt Go.RowKit
set_option linter.unusedVariables false
set_option linter.unusedSimpArgs false
attribute [local go_sem ↓] Go.wp_at_zero Go.wp_at_succ

set_option maxRecDepth 100000 in
set_option maxHeartbeats 4000000 in
theorem blaw_l (P : List Part) (b0 off cap : Nat) (w : World) (m : Int) (hm : w.cell? ⟨1, 0, none⟩ = some (.int .i64 m)) (hl : P.length ≤ 12) (hlt0 : b0 < w.heap.size) (hP : PartsAt w b0 off P) (hc : Hid (checkPartsE P = 0)) (hE : Hid (mixE P = 8)) (q0 : Hid (mixR P 0 = 0)) (q1 : Hid (mixR P 1 = 0)) (q2 : Hid (mixR P 2 = 0)) (q3 : Hid (mixR P 3 = 0)) (q4 : Hid (mixR P 4 = 0)) (q5 : Hid (mixR P 5 = 0)) :
    Calls Tryd.prog 3 #[.slice (some ⟨b0, off, none⟩) P.length cap] w fun e w' => e = .returned (.bool true) ∧ Below w.heap.size w w' := by
  have hlm := World.block_lt_of_cell? _ _ hm
  have hne : w.heap.size ≠ 1 := by simp at hlm; omega
  have hl2 : 1 < w.heap.size := by simpa using hlm
  clear hlm
  have hx : Hid (decide (P.length ≤ 15) = true) := by show _ = _; simp; omega
  have hpos : 0 < P.length := by
    rcases P with _ | ⟨p, r⟩
    · exact absurd hc.out (by decide)
    · simp
  have HP := Lib.hid hP
  have HS : Hid (PSl w (some ⟨b0, off, none⟩) P) := Or.inr ⟨b0, off, rfl, hlt0, hP⟩
  clear hP
  obtain ⟨i0, hi, hz0, hz1, hz2⟩ := info_parts infoPart
  have HI := Lib.hid hi
  have HZ0 := Lib.hid hz0
  have HZ1 := Lib.hid hz1
  have HZ2 := Lib.hid hz2
  clear hi hz0 hz1 hz2
  have el : IntKind.i64.wrap ((P.length : Int) - 1) = (P.length : Int) - 1 := IntWalk.i64_in _ (by omega)
  go_enter Tryd.func3, Tryd.ntmps3
  go_wp2_with fail
  refine (awake_any _ m (by exact oldCellM (by (repeat (first | (with_reducible refine Below.drew ?_) | (with_reducible refine below_drewN ?_ _) | (with_reducible refine Below.alloc ?_ (by first | omega | (simp; done) | (simp; omega) | (simp at *; omega)) _) | (with_reducible refine Below.setCell ?_ (by first | omega | (simp; done) | (simp; omega) | (simp at *; omega)) _) | (with_reducible exact Below.refl _ _) | (with_reducible assumption) | (with_reducible refine Below.trans ?_ (Below.mono (by assumption) (by first | omega | (simp; done) | (simp; omega) | (simp at *; omega))))))) hm)).mono ?_
  rintro e w1 ⟨rfl, hbw1⟩
  have z1 := hbw1.size
  try simp at z1
  have hB1 : Below w.heap.size w w1 := (by (repeat (first | (with_reducible refine Below.drew ?_) | (with_reducible refine below_drewN ?_ _) | (with_reducible refine Below.alloc ?_ (by first | omega | (simp; done) | (simp; omega) | (simp at *; omega)) _) | (with_reducible refine Below.setCell ?_ (by first | omega | (simp; done) | (simp; omega) | (simp at *; omega)) _) | (with_reducible exact Below.refl _ _) | (with_reducible assumption) | (with_reducible refine Below.trans ?_ (Below.mono (by assumption) (by first | omega | (simp; done) | (simp; omega) | (simp at *; omega)))))))
  have b1 : w.heap.size ≤ w1.heap.size := by omega
  clear hbw1
  go_wp2_with ((go_at_call 6; ((with_reducible refine (short_any (some ⟨b0, off, none⟩) P.length cap _ true hx (by omega)).mono ?_)); rintro e w' ⟨rfl, rfl⟩))
  go_wp2_with fail
  refine (refCheckParts_is P (some ⟨b0, off, none⟩) cap 0 _ (by omega) (by exact HS.out.below (by (repeat (first | (with_reducible refine Below.drew ?_) | (with_reducible refine below_drewN ?_ _) | (with_reducible refine Below.alloc ?_ (by first | omega | (simp; done) | (simp; omega) | (simp at *; omega)) _) | (with_reducible refine Below.setCell ?_ (by first | omega | (simp; done) | (simp; omega) | (simp at *; omega)) _) | (with_reducible exact Below.refl _ _) | (with_reducible assumption) | (with_reducible refine Below.trans ?_ (Below.mono (by assumption) (by first | omega | (simp; done) | (simp; omega) | (simp at *; omega)))))))) hc).mono ?_
  rintro e w2 ⟨rfl, hbw2⟩
  have z2 := hbw2.size
  try simp at z2
  have hB2 : Below w.heap.size w w2 := (by (repeat (first | (with_reducible refine Below.drew ?_) | (with_reducible refine below_drewN ?_ _) | (with_reducible refine Below.alloc ?_ (by first | omega | (simp; done) | (simp; omega) | (simp at *; omega)) _) | (with_reducible refine Below.setCell ?_ (by first | omega | (simp; done) | (simp; omega) | (simp at *; omega)) _) | (with_reducible exact Below.refl _ _) | (with_reducible assumption) | (with_reducible refine Below.trans ?_ (Below.mono (by assumption) (by first | omega | (simp; done) | (simp; omega) | (simp at *; omega)))))))
  have b2 : w.heap.size ≤ w2.heap.size := by omega
  clear hbw2
  go_wp2_with fail
  refine (parts_any P (some ⟨b0, off, none⟩) cap _ (by omega) (fun h => by cases h) (by exact HS.out.below (by (repeat (first | (with_reducible refine Below.drew ?_) | (with_reducible refine below_drewN ?_ _) | (with_reducible refine Below.alloc ?_ (by first | omega | (simp; done) | (simp; omega) | (simp at *; omega)) _) | (with_reducible refine Below.setCell ?_ (by first | omega | (simp; done) | (simp; omega) | (simp at *; omega)) _) | (with_reducible exact Below.refl _ _) | (with_reducible assumption) | (with_reducible refine Below.trans ?_ (Below.mono (by assumption) (by first | omega | (simp; done) | (simp; omega) | (simp at *; omega))))))))).mono ?_
  rintro e w3 ⟨b3, cap3, rfl, lt3, hP3, ge3, hbw3⟩
  have HP3 := Lib.hid hP3
  clear hP3
  have z3 := hbw3.size
  try simp at z3
  have hB3 : Below w.heap.size w w3 := (by (repeat (first | (with_reducible refine Below.drew ?_) | (with_reducible refine below_drewN ?_ _) | (with_reducible refine Below.alloc ?_ (by first | omega | (simp; done) | (simp; omega) | (simp at *; omega)) _) | (with_reducible refine Below.setCell ?_ (by first | omega | (simp; done) | (simp; omega) | (simp at *; omega)) _) | (with_reducible exact Below.refl _ _) | (with_reducible assumption) | (with_reducible refine Below.trans ?_ (Below.mono (by assumption) (by first | omega | (simp; done) | (simp; omega) | (simp at *; omega)))))))
  have b3 : w.heap.size ≤ w3.heap.size := by omega
  clear hbw3
  go_wp2_with fail
  refine (Mixed_is P _ _ 0 0 0 0 0 0 8 _ (by omega) lt3 HP3.out q0 q1 q2 q3 q4 q5 hE).mono ?_
  rintro e w4 ⟨rfl, hbw4⟩
  have z4 := hbw4.size
  try simp at z4
  have hB4 : Below w.heap.size w w4 := (by (repeat (first | (with_reducible refine Below.drew ?_) | (with_reducible refine below_drewN ?_ _) | (with_reducible refine Below.alloc ?_ (by first | omega | (simp; done) | (simp; omega) | (simp at *; omega)) _) | (with_reducible refine Below.setCell ?_ (by first | omega | (simp; done) | (simp; omega) | (simp at *; omega)) _) | (with_reducible exact Below.refl _ _) | (with_reducible assumption) | (with_reducible refine Below.trans ?_ (Below.mono (by assumption) (by first | omega | (simp; done) | (simp; omega) | (simp at *; omega)))))))
  have b4 : w.heap.size ≤ w4.heap.size := by omega
  clear hbw4
  go_wp2
  go_loopw [5, 8] (fun v i wr => ∃ (k : Nat) (vv : Value), v = vv ∧ k ≤ P.length ∧ i = .int .i64 ((k : Int) - 1) ∧ Hid (wr.ownsRow (w4.heap.size + 3) 37 3 vv (P.length - k) (pcs (P.drop k).reverse)) ∧ Below w.heap.size w wr ∧ w4.heap.size + 3 ≤ wr.heap.size ∧ wr.cell? ⟨w4.heap.size, 0, none⟩ = some (.int .i64 0) ∧ wr.cell? ⟨w4.heap.size, 1, none⟩ = some (.int .i64 0) ∧ wr.cell? ⟨w4.heap.size, 2, none⟩ = some (.int .i64 0) ∧ wr.cell? ⟨w4.heap.size, 3, none⟩ = some (.int .i64 0) ∧ wr.cell? ⟨w4.heap.size, 4, none⟩ = some (.int .i64 0) ∧ wr.cell? ⟨w4.heap.size, 5, none⟩ = some (.int .i64 0) ∧ wr.cell? ⟨w4.heap.size + 1, 0, none⟩ = some (.int .i64 (lowF Part.o (P.drop k))) ∧ wr.cell? ⟨w4.heap.size + 1, 1, none⟩ = some (.int .i64 (lowF Part.h (P.drop k))) ∧ wr.cell? ⟨w4.heap.size + 2, 0, none⟩ = some (.int .i64 (highF Part.o (P.drop k))) ∧ wr.cell? ⟨w4.heap.size + 2, 1, none⟩ = some (.int .i64 (highF Part.h (P.drop k))) ∧ (∀ j, wr.frozen? ⟨w4.heap.size + 1, j, none⟩ = false) ∧ (∀ j, wr.frozen? ⟨w4.heap.size + 2, j, none⟩ = false)) (fun _ i _ => (intOf i + 1).toNat)
  case atStart =>
    refine ⟨P.length, _, rfl, Nat.le_refl _, rfl, ?_, (by (repeat (first | (with_reducible refine Below.drew ?_) | (with_reducible refine below_drewN ?_ _) | (with_reducible refine Below.alloc ?_ (by first | omega | (simp; done) | (simp; omega) | (simp at *; omega)) _) | (with_reducible refine Below.setCell ?_ (by first | omega | (simp; done) | (simp; omega) | (simp at *; omega)) _) | (with_reducible exact Below.refl _ _) | (with_reducible assumption) | (with_reducible refine Below.trans ?_ (Below.mono (by assumption) (by first | omega | (simp; done) | (simp; omega) | (simp at *; omega))))))), by simp, by simp [go_sem, World.cell?_alloc_past, *], by simp [go_sem, World.cell?_alloc_past, *], by simp [go_sem, World.cell?_alloc_past, *], by simp [go_sem, World.cell?_alloc_past, *], by simp [go_sem, World.cell?_alloc_past, *], by simp [go_sem, World.cell?_alloc_past, *], by simp [go_sem, World.cell?_alloc_past, lowF, highF, *], by simp [go_sem, World.cell?_alloc_past, lowF, highF, *], by simp [go_sem, World.cell?_alloc_past, lowF, highF, *], by simp [go_sem, World.cell?_alloc_past, lowF, highF, *], by intro j; simp [go_sem], by intro j; simp [go_sem]⟩
    rw [Nat.sub_self, List.drop_length]; exact World.ownsRow_nil _ _ _ _
  case round =>
    obtain ⟨k, v, rfl, hk, rfl, HO, hB, hsz, x0, x1, x2, x3, x4, x5, l0, l1, g0, g1, fl, fh⟩ := hrel
    rcases k with _ | k
    · skip
      obtain ⟨bq, cq, rfl, ltq, hPq, geq⟩ := exit_own P HO hpos
      have HPq := Lib.hid hPq
      clear hPq HO
      obtain ⟨Q, hQ⟩ : ∃ Q, Hid (P.reverse = Q) := ⟨_, rfl⟩
      rw [hQ.out] at HPq ⊢
      have lQ : Q.length ≤ 12 := by rw [← hQ.out, List.length_reverse]; exact hl
      have hEQ : Hid (mixE Q = 8) := by show _ = _; rw [← hQ.out, mixE_rev hc.out]; exact hE.out
      have hd0 : P.drop 0 = P := rfl
      rw [hd0] at l0 l1 g0 g1
      have Q0 : Hid (mixR Q 0 = 0) := by show _ = _; rw [← hQ.out, mixR_rev hc.out]; exact q0.out
      have Q1 : Hid (mixR Q 1 = 0) := by show _ = _; rw [← hQ.out, mixR_rev hc.out]; exact q1.out
      have Q2 : Hid (mixR Q 2 = 0) := by show _ = _; rw [← hQ.out, mixR_rev hc.out]; exact q2.out
      have Q3 : Hid (mixR Q 3 = 0) := by show _ = _; rw [← hQ.out, mixR_rev hc.out]; exact q3.out
      have Q4 : Hid (mixR Q 4 = 0) := by show _ = _; rw [← hQ.out, mixR_rev hc.out]; exact q4.out
      have Q5 : Hid (mixR Q 5 = 0) := by show _ = _; rw [← hQ.out, mixR_rev hc.out]; exact q5.out
      have o5_0 : w4.heap.size < wr.heap.size := by omega
      have n5_0 : wr.heap.size ≠ w4.heap.size := by omega
      have t5_0_1 : w4.heap.size < wr.heap.size + 1 := by omega
      have t5_0_2 : w4.heap.size < wr.heap.size + 1 + 1 := by omega
      have t5_0_3 : w4.heap.size < wr.heap.size + 1 + 1 + 1 := by omega
      have b5 : w.heap.size ≤ wr.heap.size := by omega
      go_wp2_with fail
      refine (Mixed_is Q bq cq 0 0 0 0 0 0 8 _ (by omega) ltq HPq.out Q0 Q1 Q2 Q3 Q4 Q5 hEQ).mono ?_
      rintro e w6 ⟨rfl, hbw6⟩
      have z6 := hbw6.size
      try simp at z6
      have c6_0 : w6.cell? ⟨w4.heap.size, 0, none⟩ = some (.int .i64 0) := by rw [(bcell hbw6).1 _ _ (by first | (simp; done) | (simp; omega) | omega)]; simp [go_sem, World.cell?_alloc_past, *]
      have c6_1 : w6.cell? ⟨w4.heap.size, 1, none⟩ = some (.int .i64 0) := by rw [(bcell hbw6).1 _ _ (by first | (simp; done) | (simp; omega) | omega)]; simp [go_sem, World.cell?_alloc_past, *]
      have c6_2 : w6.cell? ⟨w4.heap.size, 2, none⟩ = some (.int .i64 0) := by rw [(bcell hbw6).1 _ _ (by first | (simp; done) | (simp; omega) | omega)]; simp [go_sem, World.cell?_alloc_past, *]
      have c6_3 : w6.cell? ⟨w4.heap.size, 3, none⟩ = some (.int .i64 0) := by rw [(bcell hbw6).1 _ _ (by first | (simp; done) | (simp; omega) | omega)]; simp [go_sem, World.cell?_alloc_past, *]
      have c6_4 : w6.cell? ⟨w4.heap.size, 4, none⟩ = some (.int .i64 0) := by rw [(bcell hbw6).1 _ _ (by first | (simp; done) | (simp; omega) | omega)]; simp [go_sem, World.cell?_alloc_past, *]
      have c6_5 : w6.cell? ⟨w4.heap.size, 5, none⟩ = some (.int .i64 0) := by rw [(bcell hbw6).1 _ _ (by first | (simp; done) | (simp; omega) | omega)]; simp [go_sem, World.cell?_alloc_past, *]
      have hB6 : Below w.heap.size w w6 := (by (repeat (first | (with_reducible refine Below.drew ?_) | (with_reducible refine below_drewN ?_ _) | (with_reducible refine Below.alloc ?_ (by first | omega | (simp; done) | (simp; omega) | (simp at *; omega)) _) | (with_reducible refine Below.setCell ?_ (by first | omega | (simp; done) | (simp; omega) | (simp at *; omega)) _) | (with_reducible exact Below.refl _ _) | (with_reducible assumption) | (with_reducible refine Below.trans ?_ (Below.mono (by assumption) (by first | omega | (simp; done) | (simp; omega) | (simp at *; omega)))))))
      clear o5_0 n5_0 t5_0_1 t5_0_2 t5_0_3
      have o6_0 : w4.heap.size < w6.heap.size := by omega
      have n6_0 : w6.heap.size ≠ w4.heap.size := by omega
      have t6_0_1 : w4.heap.size < w6.heap.size + 1 := by omega
      have t6_0_2 : w4.heap.size < w6.heap.size + 1 + 1 := by omega
      have t6_0_3 : w4.heap.size < w6.heap.size + 1 + 1 + 1 := by omega
      have b6 : w.heap.size ≤ w6.heap.size := by omega
      clear hbw6
      have hEq := eqArrF
      go_wp2
      go_ret
      exact ⟨by first | rfl | (simp; done) | (apply ret_bool; simp), (by (repeat (first | (with_reducible refine Below.drew ?_) | (with_reducible refine below_drewN ?_ _) | (with_reducible refine Below.alloc ?_ (by first | omega | (simp; done) | (simp; omega) | (simp at *; omega)) _) | (with_reducible refine Below.setCell ?_ (by first | omega | (simp; done) | (simp; omega) | (simp at *; omega)) _) | (with_reducible exact Below.refl _ _) | (with_reducible assumption) | (with_reducible refine Below.trans ?_ (Below.mono (by assumption) (by first | omega | (simp; done) | (simp; omega) | (simp at *; omega)))))))⟩
    · have hk' : k < P.length := hk
      rw [show (((k + 1 : Nat) : Int) - 1) = (k : Int) by omega]
      obtain ⟨c0, c1, c2⟩ := HP.out.below hB hlt0 k hk'
      obtain ⟨po, ho⟩ : ∃ x, Hid (P[k].o = x) := ⟨P[k].o, rfl⟩
      obtain ⟨ph, hh⟩ : ∃ x, Hid (P[k].h = x) := ⟨P[k].h, rfl⟩
      obtain ⟨pa, ha⟩ : ∃ x, Hid (P[k].a = x) := ⟨P[k].a, rfl⟩
      rw [ho.out] at c0
      rw [hh.out] at c1
      rw [ha.out] at c2
      have HR := Lib.hid (pcs_rev hk')
      have L0 := Lib.hid (lowF_drop Part.o hk')
      have L1 := Lib.hid (lowF_drop Part.h hk')
      have G0 := Lib.hid (highF_drop Part.o hk')
      have G1 := Lib.hid (highF_drop Part.h hk')
      obtain ⟨u0, e0⟩ : ∃ x, Hid (lowF Part.o (P.drop (k + 1)) = x) := ⟨_, rfl⟩
      obtain ⟨u1, e1⟩ : ∃ x, Hid (lowF Part.h (P.drop (k + 1)) = x) := ⟨_, rfl⟩
      obtain ⟨v0, f0⟩ : ∃ x, Hid (highF Part.o (P.drop (k + 1)) = x) := ⟨_, rfl⟩
      obtain ⟨v1, f1⟩ : ∃ x, Hid (highF Part.h (P.drop (k + 1)) = x) := ⟨_, rfl⟩
      rw [e0.out] at l0
      rw [e1.out] at l1
      rw [f0.out] at g0
      rw [f1.out] at g1
      have hbs := hB.size
      have nb : b0 < wr.heap.size := by omega
      have nb2 : wr.heap.size ≠ b0 := by omega
      have ek : IntKind.i64.wrap ((k : Int) - 1) = (k : Int) - 1 := IntWalk.i64_in _ (by omega)
      go_wp2_with (at_builtin; refine wpList_append_own_at _ rfl _ _ 22 rfl (w4.heap.size + 3) 37 i0 (.agg #[.int .i64 0, .int .i64 0, .int .i64 0]) 3 24 Tryd.underlying22 HI.out HZ0.out HZ1.out HZ2.out rfl (by decide) _ _ _ rfl (HO.out.alloc _) ⟨wr.heap.size, 0, none⟩ 1 1 [.int .i64 po, .int .i64 ph, .int .i64 pa] rfl rfl (cells3 _ _ _ _ _) ?c1 ?c2 ?c3 ?c4 ?_)
      case c1 => intro u hu; simp at hu; rcases hu with rfl | rfl | rfl <;> rfl
      case c2 => unfold maxLen; omega
      case c3 => omega
      case c4 => simp; omega
      intro v' w5 hown hgrow hnn hblk
      have hB5s : Below (w4.heap.size + 3) wr w5 := ((Below.refl (w4.heap.size + 3) wr).alloc (by omega) _).grown hgrow (by simp; omega) (own_block HO.out)
      have hB5 : Below w.heap.size w w5 := hB.trans (hB5s.mono (by omega))
      have s5 := hB5s.size
      obtain ⟨hc5, hf5⟩ := bcellB hB5s
      have HOW : Hid (w5.ownsRow (w4.heap.size + 3) 37 3 v' (P.length - k) (pcs (P.drop k).reverse)) := by
        show World.ownsRow _ _ _ _ _ _ _
        rw [ho.out, hh.out, ha.out] at HR
        rw [← HR.out, show P.length - k = P.length - (k + 1) + 1 by omega]
        exact hown
      have c05 : w5.cell? ⟨b0, off + k * 3, none⟩ = some (.int .i64 po) := by rw [hc5 _ _ (by omega)]; exact c0
      have c15 : w5.cell? ⟨b0, off + k * 3 + 1, none⟩ = some (.int .i64 ph) := by rw [hc5 _ _ (by omega)]; exact c1
      have c25 : w5.cell? ⟨b0, off + k * 3 + 2, none⟩ = some (.int .i64 pa) := by rw [hc5 _ _ (by omega)]; exact c2
      have x05 : w5.cell? ⟨w4.heap.size, 0, none⟩ = some (.int .i64 0) := by rw [hc5 _ _ (by omega)]; exact x0
      have x15 : w5.cell? ⟨w4.heap.size, 1, none⟩ = some (.int .i64 0) := by rw [hc5 _ _ (by omega)]; exact x1
      have x25 : w5.cell? ⟨w4.heap.size, 2, none⟩ = some (.int .i64 0) := by rw [hc5 _ _ (by omega)]; exact x2
      have x35 : w5.cell? ⟨w4.heap.size, 3, none⟩ = some (.int .i64 0) := by rw [hc5 _ _ (by omega)]; exact x3
      have x45 : w5.cell? ⟨w4.heap.size, 4, none⟩ = some (.int .i64 0) := by rw [hc5 _ _ (by omega)]; exact x4
      have x55 : w5.cell? ⟨w4.heap.size, 5, none⟩ = some (.int .i64 0) := by rw [hc5 _ _ (by omega)]; exact x5
      have l05 : w5.cell? ⟨w4.heap.size + 1, 0, none⟩ = some (.int .i64 u0) := by rw [hc5 _ _ (by omega)]; exact l0
      have l15 : w5.cell? ⟨w4.heap.size + 1, 1, none⟩ = some (.int .i64 u1) := by rw [hc5 _ _ (by omega)]; exact l1
      have g05 : w5.cell? ⟨w4.heap.size + 2, 0, none⟩ = some (.int .i64 v0) := by rw [hc5 _ _ (by omega)]; exact g0
      have g15 : w5.cell? ⟨w4.heap.size + 2, 1, none⟩ = some (.int .i64 v1) := by rw [hc5 _ _ (by omega)]; exact g1
      have fl5 : ∀ j, w5.frozen? ⟨w4.heap.size + 1, j, none⟩ = false := fun j => by rw [hf5 _ _ (by omega)]; exact fl j
      have fh5 : ∀ j, w5.frozen? ⟨w4.heap.size + 2, j, none⟩ = false := fun j => by rw [hf5 _ _ (by omega)]; exact fh j
      have nb5 : b0 < w5.heap.size := by omega
      have nbX : b0 ≠ w4.heap.size := by omega
      have nbX1 : b0 ≠ w4.heap.size + 1 := by omega
      have nbX2 : b0 ≠ w4.heap.size + 2 := by omega
      have mX1 : ¬ w4.heap.size + 1 = b0 := by omega
      have mX2 : ¬ w4.heap.size + 2 = b0 := by omega
      have sX0 : w4.heap.size < w5.heap.size := by omega
      have sX1 : w4.heap.size + 1 < w5.heap.size := by omega
      have sX2 : w4.heap.size + 2 < w5.heap.size := by omega
      clear hown hgrow hnn hblk hc5 hf5 c0 c1 c2 x0 x1 x2 x3 x4 x5 l0 l1 g0 g1 fl fh HO hB5s
      go_wp2
      go_still_tail 19, (by kernel_rfl)
      change wpList _ _ _ _ _ w5.drew
      go_wp2
      obtain ⟨w6, hw6⟩ : ∃ z, Hid (((w5.setCell ⟨w4.heap.size + 1, 0, none⟩ (.int .i64 (min u0 po))).setCell ⟨w4.heap.size + 1, 1, none⟩ (.int .i64 (min u1 ph))).drew = z) := ⟨_, rfl⟩
      have s6 : w6.heap.size = w5.heap.size := by rw [← hw6.out]; simp
      have hB6 : Below w.heap.size w w6 := by
        rw [← hw6.out]
        (repeat (first | (with_reducible refine Below.drew ?_) | (with_reducible refine below_drewN ?_ _) | (with_reducible refine Below.alloc ?_ (by first | omega | (simp; done) | (simp; omega) | (simp at *; omega)) _) | (with_reducible refine Below.setCell ?_ (by first | omega | (simp; done) | (simp; omega) | (simp at *; omega)) _) | (with_reducible exact Below.refl _ _) | (with_reducible assumption) | (with_reducible refine Below.trans ?_ (Below.mono (by assumption) (by first | omega | (simp; done) | (simp; omega) | (simp at *; omega))))))
      have HO6 : Hid (w6.ownsRow (w4.heap.size + 3) 37 3 v' (P.length - k) (pcs (P.drop k).reverse)) := by
        show World.ownsRow _ _ _ _ _ _ _
        rw [← hw6.out]
        exact (ownsRow_setCell_below (ownsRow_setCell_below HOW.out (by first | (simp; done) | (simp; omega)) _) (by first | (simp; done) | (simp; omega)) _).drew
      have dd0 : w6.cell? ⟨b0, off + k * 3, none⟩ = some (.int .i64 po) := by rw [← hw6.out]; simp [go_sem, c05, mX1]
      have dd1 : w6.cell? ⟨b0, off + k * 3 + 1, none⟩ = some (.int .i64 ph) := by rw [← hw6.out]; simp [go_sem, c15, mX1]
      have dd2 : w6.cell? ⟨b0, off + k * 3 + 2, none⟩ = some (.int .i64 pa) := by rw [← hw6.out]; simp [go_sem, c25, mX1]
      have x06 : w6.cell? ⟨w4.heap.size, 0, none⟩ = some (.int .i64 0) := by rw [← hw6.out]; simp [go_sem, x05]
      have x16 : w6.cell? ⟨w4.heap.size, 1, none⟩ = some (.int .i64 0) := by rw [← hw6.out]; simp [go_sem, x15]
      have x26 : w6.cell? ⟨w4.heap.size, 2, none⟩ = some (.int .i64 0) := by rw [← hw6.out]; simp [go_sem, x25]
      have x36 : w6.cell? ⟨w4.heap.size, 3, none⟩ = some (.int .i64 0) := by rw [← hw6.out]; simp [go_sem, x35]
      have x46 : w6.cell? ⟨w4.heap.size, 4, none⟩ = some (.int .i64 0) := by rw [← hw6.out]; simp [go_sem, x45]
      have x56 : w6.cell? ⟨w4.heap.size, 5, none⟩ = some (.int .i64 0) := by rw [← hw6.out]; simp [go_sem, x55]
      have l06 : w6.cell? ⟨w4.heap.size + 1, 0, none⟩ = some (.int .i64 (min u0 po)) := by rw [← hw6.out]; simp [go_sem, l05, l15]
      have l16 : w6.cell? ⟨w4.heap.size + 1, 1, none⟩ = some (.int .i64 (min u1 ph)) := by rw [← hw6.out]; simp [go_sem, l05, l15]
      have g06 : w6.cell? ⟨w4.heap.size + 2, 0, none⟩ = some (.int .i64 v0) := by rw [← hw6.out]; simp [go_sem, g05]
      have g16 : w6.cell? ⟨w4.heap.size + 2, 1, none⟩ = some (.int .i64 v1) := by rw [← hw6.out]; simp [go_sem, g15]
      have fl6 : ∀ j, w6.frozen? ⟨w4.heap.size + 1, j, none⟩ = false := fun j => by rw [← hw6.out]; simp [go_sem, fl5]
      have fh6 : ∀ j, w6.frozen? ⟨w4.heap.size + 2, j, none⟩ = false := fun j => by rw [← hw6.out]; simp [go_sem, fh5]
      rw [hw6.out]
      rw [← s6] at nb5 sX0 sX1 sX2 s5
      clear c05 c15 c25 x05 x15 x25 x35 x45 x55 l05 l15 g05 g15 fl5 fh5 HOW hB5
      go_still_tail 19, (by kernel_rfl)
      change wpList _ _ _ _ _ w6.drew
      go_wp2
      go_roundw
      case rel =>
        refine ⟨k, _, rfl, by omega, rfl, ?r0, (by (repeat (first | (with_reducible refine Below.drew ?_) | (with_reducible refine below_drewN ?_ _) | (with_reducible refine Below.alloc ?_ (by first | omega | (simp; done) | (simp; omega) | (simp at *; omega)) _) | (with_reducible refine Below.setCell ?_ (by first | omega | (simp; done) | (simp; omega) | (simp at *; omega)) _) | (with_reducible exact Below.refl _ _) | (with_reducible assumption) | (with_reducible refine Below.trans ?_ (Below.mono (by assumption) (by first | omega | (simp; done) | (simp; omega) | (simp at *; omega))))))), by simp; omega, ?r3, ?r4, ?r5, ?r6, ?r7, ?r8, ?r9, ?s0, ?s1, ?s2, ?t1, ?t2⟩
        case r9 => rw [L0.out, e0.out, ho.out]; simp [go_sem, l06]
        case s0 => rw [L1.out, e1.out, hh.out]; simp [go_sem, l16]
        case s1 => rw [G0.out, f0.out, ho.out]; simp [go_sem, g06, g16]
        case s2 => rw [G1.out, f1.out, hh.out]; simp [go_sem, g06, g16]
        case t1 => intro j; simp [go_sem, fl6]
        case t2 => intro j; simp [go_sem, fh6]
        case r0 => exact (ownsRow_setCell_below (ownsRow_setCell_below HO6.out (by first | (simp; done) | (simp; omega)) _) (by first | (simp; done) | (simp; omega)) _).drew
        all_goals simp [go_sem, x06, x16, x26, x36, x46, x56]
      case measure => (simp [intOf]) <;> omega
  
end Go.Proofs.YtlhogcbodgimdaaDoor
