import Derived.Test.YtojaompfffpofaaGreatZCSAt
import Derived.Outline
namespace Go.Proofs.YtojaompfffpofaaGreat
open Go.ChangeShapes Go.WideShapes Go.ChangeAt Go.RowKit
set_option linter.unusedVariables false
set_option linter.unusedSimpArgs false
attribute [local go_sem ↓] Go.wp_at_zero Go.wp_at_succ
theorem negative_any (x y : Int) (w : World) (h0 : -1000000000 ≤ x) (h1 : x ≤ 1000000000) (h2 : -1000000000 ≤ y) (h3 : y ≤ 1000000000) :
    Calls Tryz.prog 158 #[.agg #[.int .i64 x, .int .i64 y]] w fun e w' => e = .returned (.agg #[.int .i64 (-y), .int .i64 (-x)]) ∧ Below w.heap.size w w' := by
  have e1 : IntKind.i64.wrap (-x) = -x := IntWalk.i64_in _ (by omega)
  have e2 : IntKind.i64.wrap (-y) = -y := IntWalk.i64_in _ (by omega)
  go_enter Tryz.func158, Tryz.ntmps158
  go_wp2
  refine bodyPost_ret (v := .agg #[.int .i64 (-y), .int .i64 (-x)]) (by simp [results, Tryz.results158, go_sem]) rfl ⟨rfl, ?_⟩
  (repeat (first | (with_reducible refine Below.drew ?_) | (with_reducible refine below_drewN ?_ _) | (with_reducible refine Below.alloc ?_ (by first | omega | (simp; done) | (simp; omega) | (simp at *; omega)) _) | (with_reducible refine Below.setCell ?_ (by first | omega | (simp; done) | (simp; omega) | (simp at *; omega)) _) | (with_reducible exact Below.refl _ _) | (with_reducible assumption) | (with_reducible refine Below.trans ?_ (Below.mono (by assumption) (by first | omega | (simp; done) | (simp; omega) | (simp at *; omega))))))
def bitT (m k : Nat) : Bool := (bits BinOp.and IntKind.i64 (m : Int) (1024 / 2 ^ k) != 0) == bitB m k
theorem bit_all : (List.range 11).all (fun k => (List.range 1024).all fun m => bitT m k) = true := by decide +kernel
theorem bit_is {m k : Nat} (hm : m < 1024) (hk : k < 11) : (bits BinOp.and IntKind.i64 (m : Int) (1024 / 2 ^ k) != 0) = bitB m k := by
  have h := List.all_eq_true.1 bit_all k (List.mem_range.2 hk)
  have h2 := List.all_eq_true.1 h m (List.mem_range.2 hm)
  simpa [bitT] using h2
theorem turned_let (a b c d a' b' c' d' : Int) (w : World) (hp : PtOk ⟨a, b, c, d⟩) (hq : PtOk ⟨a', b', c', d'⟩) :
    Calls Tryz.prog 176 #[.agg #[.int .i64 a, .int .i64 b, .int .i64 c, .int .i64 d], .agg #[.int .i64 a', .int .i64 b', .int .i64 c', .int .i64 d']] w fun e w' => e = .returned (.agg #[.int .i64 (trn ⟨a, b, c, d⟩ ⟨a', b', c', d'⟩).a, .int .i64 (trn ⟨a, b, c, d⟩ ⟨a', b', c', d'⟩).b, .int .i64 (trn ⟨a, b, c, d⟩ ⟨a', b', c', d'⟩).c, .int .i64 (trn ⟨a, b, c, d⟩ ⟨a', b', c', d'⟩).d]) ∧ Below w.heap.size w w' := turned_any _ _ w hp hq
/-- The halves lie in a block from a cell on. -/
def HvA (w : World) (b off : Nat) : Prop := ∀ j, j < 11 → w.rangeAt b (off + j * 4) (ptV (hv j))
theorem HvA.below {w w' : World} {b off N : Nat} (h : HvA w b off) (hB : Below N w w') (hb : b < N) : HvA w' b off := fun j hj => range_below (h j hj) hB hb
set_option maxRecDepth 100000 in
set_option maxHeartbeats 4000000 in
theorem at_any (b off m : Nat) (w : World) (hm : m < 1024) (hb : b < w.heap.size) (H : Hid (HvA w b off)) :
    Calls Tryz.prog 157 #[.pointer (some ⟨b, off, none⟩), .int .i64 m] w fun e w' => e = .returned (.agg #[.int .i64 (atP m 11).a, .int .i64 (atP m 11).b, .int .i64 (atP m 11).c, .int .i64 (atP m 11).d]) ∧ Below w.heap.size w w' := by
  obtain ⟨⟨ea, eb, ec, ed⟩, he⟩ : ∃ q, Hid (atP m 11 = q) := ⟨_, Lib.hid rfl⟩
  rw [he.out]
  dsimp only
  go_enter Tryz.func157, Tryz.ntmps157
  go_wp2
  go_loopw [12] (fun i wr => ∃ k : Nat, i = .int .i64 k ∧ k ≤ 11 ∧ wr.cell? ⟨w.heap.size + 1, 0, none⟩ = some (.int .i64 (atP m k).a) ∧ wr.cell? ⟨w.heap.size + 1, 1, none⟩ = some (.int .i64 (atP m k).b) ∧ wr.cell? ⟨w.heap.size + 1, 2, none⟩ = some (.int .i64 (atP m k).c) ∧ wr.cell? ⟨w.heap.size + 1, 3, none⟩ = some (.int .i64 (atP m k).d) ∧ (∀ j, wr.frozen? ⟨w.heap.size + 1, j, none⟩ = false) ∧ Hid (wr.there w.heap.size 0 4) ∧ w.heap.size + 2 ≤ wr.heap.size ∧ Below w.heap.size w wr) (fun i _ => 11 - (intOf i).toNat)
  case atStart =>
    refine ⟨0, rfl, by omega, by simp [go_sem, World.cell?_alloc_past, atP, pt0], by simp [go_sem, World.cell?_alloc_past, atP, pt0], by simp [go_sem, World.cell?_alloc_past, atP, pt0], by simp [go_sem, World.cell?_alloc_past, atP, pt0], by intro j; simp [go_sem], Lib.hid ?_, by simp, (by (repeat (first | (with_reducible refine Below.drew ?_) | (with_reducible refine below_drewN ?_ _) | (with_reducible refine Below.alloc ?_ (by first | omega | (simp; done) | (simp; omega) | (simp at *; omega)) _) | (with_reducible refine Below.setCell ?_ (by first | omega | (simp; done) | (simp; omega) | (simp at *; omega)) _) | (with_reducible exact Below.refl _ _) | (with_reducible assumption) | (with_reducible refine Below.trans ?_ (Below.mono (by assumption) (by first | omega | (simp; done) | (simp; omega) | (simp at *; omega)))))))⟩
    exact there_below (N := w.heap.size + 1) (there_new w [.int .i64 0, .int .i64 0, .int .i64 0, .int .i64 0] 155) (by (repeat (first | (with_reducible refine Below.drew ?_) | (with_reducible refine below_drewN ?_ _) | (with_reducible refine Below.alloc ?_ (by first | omega | (simp; done) | (simp; omega) | (simp at *; omega)) _) | (with_reducible refine Below.setCell ?_ (by first | omega | (simp; done) | (simp; omega) | (simp at *; omega)) _) | (with_reducible exact Below.refl _ _) | (with_reducible assumption) | (with_reducible refine Below.trans ?_ (Below.mono (by assumption) (by first | omega | (simp; done) | (simp; omega) | (simp at *; omega))))))) (by omega)
  case round =>
    obtain ⟨k, rfl, hk, c0, c1, c2, c3, fz, H3, sz, hB⟩ := hrel
    by_cases hk11 : k < 11
    · obtain ⟨d0, d1, d2, d3⟩ := pt_cells ((H.out.below hB hb) k hk11)
      obtain ⟨⟨qa, qb, qc, qd⟩, hq⟩ : ∃ q, Hid (hv k = q) := ⟨_, Lib.hid rfl⟩
      obtain ⟨⟨pa, pb, pc, pd⟩, hp⟩ : ∃ q, Hid (atP m k = q) := ⟨_, Lib.hid rfl⟩
      have kq : PtOk ⟨qa, qb, qc, qd⟩ := by rw [← hq.out]; exact hv_ok k
      have kp : PtOk ⟨pa, pb, pc, pd⟩ := by rw [← hp.out]; exact atP_ok hm (by omega)
      rw [hq.out] at d0 d1 d2 d3
      rw [hp.out] at c0 c1 c2 c3
      dsimp only at c0 c1 c2 c3 d0 d1 d2 d3
      have n1 : w.heap.size + 1 < wr.heap.size := by omega
      have n2 : w.heap.size < wr.heap.size := by omega
      have n3 : wr.heap.size ≠ w.heap.size + 1 := by omega
      have n4 : ¬ w.heap.size + 1 = wr.heap.size := by omega
      have n5 : b < wr.heap.size := by omega
      have n6 : b ≠ wr.heap.size := by omega
      have n7 : wr.heap.size ≠ b := by omega
      go_upto_region 4 with (fail)
      go_region
      have hB3 : Hid (wr.there w.heap.size 0 4) := H3
      cases hbit : bitB m k with
      | true =>
        have HB : (bits BinOp.and IntKind.i64 (m : Int) (1024 / 2 ^ k) != 0) = true := by rw [bit_is hm hk11]; exact hbit
        obtain ⟨⟨ra, rb, rc, rd⟩, hr⟩ : ∃ q, Hid (trn ⟨pa, pb, pc, pd⟩ ⟨qa, qb, qc, qd⟩ = q) := ⟨_, Lib.hid rfl⟩
        have HT := turned_let pa pb pc pd qa qb qc qd
        rw [hr.out] at HT
        have HT2 := Lib.hid HT
        have HE : Hid (atP m (k + 1) = ⟨ra, rb, rc, rd⟩) := Lib.hid (by rw [atP, if_pos hbit, hp.out, hq.out, hr.out])
        clear HT hbit
        go_wp2_with ((go_at_call 176; ((with_reducible refine (HT2.out _ kp kq).mono ?_)); rintro e w1 ⟨rfl, hbw⟩; obtain ⟨hbc, hbf⟩ := bcell hbw; have hbs := hbw.size))
        all_goals
          go_roundw
          case rel => exact ⟨k + 1, by go_num, by omega, by rw [HE.out]; simp [go_sem, *], by rw [HE.out]; simp [go_sem, *], by rw [HE.out]; simp [go_sem, *], by rw [HE.out]; simp [go_sem, *], by intro j; simp [go_sem, *], Lib.hid (there_below (N := w.heap.size + 1) H3.out (by (repeat (first | (with_reducible refine Below.drew ?_) | (with_reducible refine below_drewN ?_ _) | (with_reducible refine Below.alloc ?_ (by first | omega | (simp; done) | (simp; omega) | (simp at *; omega)) _) | (with_reducible refine Below.setCell ?_ (by first | omega | (simp; done) | (simp; omega) | (simp at *; omega)) _) | (with_reducible exact Below.refl _ _) | (with_reducible assumption) | (with_reducible refine Below.trans ?_ (Below.mono (by assumption) (by first | omega | (simp; done) | (simp; omega) | (simp at *; omega))))))) (by omega)), by simp at *; omega, (by (repeat (first | (with_reducible refine Below.drew ?_) | (with_reducible refine below_drewN ?_ _) | (with_reducible refine Below.alloc ?_ (by first | omega | (simp; done) | (simp; omega) | (simp at *; omega)) _) | (with_reducible refine Below.setCell ?_ (by first | omega | (simp; done) | (simp; omega) | (simp at *; omega)) _) | (with_reducible exact Below.refl _ _) | (with_reducible assumption) | (with_reducible refine Below.trans ?_ (Below.mono (by assumption) (by first | omega | (simp; done) | (simp; omega) | (simp at *; omega)))))))⟩
          case measure => (simp [intOf]) <;> omega
      | false =>
        have HB : (bits BinOp.and IntKind.i64 (m : Int) (1024 / 2 ^ k) != 0) = false := by rw [bit_is hm hk11]; exact hbit
        have HE : Hid (atP m (k + 1) = ⟨pa, pb, pc, pd⟩) := Lib.hid (by rw [atP, if_neg (by rw [hbit]; exact Bool.false_ne_true), hp.out])
        clear hbit
        go_wp2
        all_goals
          go_roundw
          case rel => exact ⟨k + 1, by go_num, by omega, by rw [HE.out]; simp [go_sem, *], by rw [HE.out]; simp [go_sem, *], by rw [HE.out]; simp [go_sem, *], by rw [HE.out]; simp [go_sem, *], by intro j; simp [go_sem, *], Lib.hid (there_below (N := w.heap.size + 1) H3.out (by (repeat (first | (with_reducible refine Below.drew ?_) | (with_reducible refine below_drewN ?_ _) | (with_reducible refine Below.alloc ?_ (by first | omega | (simp; done) | (simp; omega) | (simp at *; omega)) _) | (with_reducible refine Below.setCell ?_ (by first | omega | (simp; done) | (simp; omega) | (simp at *; omega)) _) | (with_reducible exact Below.refl _ _) | (with_reducible assumption) | (with_reducible refine Below.trans ?_ (Below.mono (by assumption) (by first | omega | (simp; done) | (simp; omega) | (simp at *; omega))))))) (by omega)), by simp; omega, (by (repeat (first | (with_reducible refine Below.drew ?_) | (with_reducible refine below_drewN ?_ _) | (with_reducible refine Below.alloc ?_ (by first | omega | (simp; done) | (simp; omega) | (simp at *; omega)) _) | (with_reducible refine Below.setCell ?_ (by first | omega | (simp; done) | (simp; omega) | (simp at *; omega)) _) | (with_reducible exact Below.refl _ _) | (with_reducible assumption) | (with_reducible refine Below.trans ?_ (Below.mono (by assumption) (by first | omega | (simp; done) | (simp; omega) | (simp at *; omega)))))))⟩
          case measure => (simp [intOf]) <;> omega
    · have hkk : k = 11 := by omega
      subst hkk
      rw [he.out] at c0 c1 c2 c3
      dsimp only at c0 c1 c2 c3
      obtain ⟨v0, y0⟩ := there_some H3.out (show 0 < 4 by omega)
      obtain ⟨v1, y1⟩ := there_some H3.out (show 1 < 4 by omega)
      obtain ⟨v2, y2⟩ := there_some H3.out (show 2 < 4 by omega)
      obtain ⟨v3, y3⟩ := there_some H3.out (show 3 < 4 by omega)
      have f0 := (H3.out 0 (by omega)).2
      have f1 := (H3.out 1 (by omega)).2
      have f2 := (H3.out 2 (by omega)).2
      have f3 := (H3.out 3 (by omega)).2
      simp only [Nat.zero_add] at y0 y1 y2 y3 f0 f1 f2 f3
      go_wp2
      refine bodyPost_ret (v := .agg #[.int .i64 ea, .int .i64 eb, .int .i64 ec, .int .i64 ed]) (by simp [results, Tryz.results157, go_sem, *]) rfl ⟨rfl, ?_⟩
      (repeat (first | (with_reducible refine Below.drew ?_) | (with_reducible refine below_drewN ?_ _) | (with_reducible refine Below.alloc ?_ (by first | omega | (simp; done) | (simp; omega) | (simp at *; omega)) _) | (with_reducible refine Below.setCell ?_ (by first | omega | (simp; done) | (simp; omega) | (simp at *; omega)) _) | (with_reducible exact Below.refl _ _) | (with_reducible assumption) | (with_reducible refine Below.trans ?_ (Below.mono (by assumption) (by first | omega | (simp; done) | (simp; omega) | (simp at *; omega))))))
end Go.Proofs.YtojaompfffpofaaGreat
