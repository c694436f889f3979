/- What tissue.rootsTo returns: the roots of the levels, one after the other. -/
import Derived.Test.YtbdiljbjddppcaaSqrt
import Derived.Maps.AppendAt
import Derived.OwnWalk
import Derived.Outline
namespace Go.Proofs.Ytbdiljbjddppcaa
open Go.ChangeShapes Go.WideShapes Go.ChangeAt Go.RowKit
set_option linter.unusedVariables false
set_option linter.unusedSimpArgs false

/-- The root of a level: its lower and its upper end. -/
noncomputable def rootP : Nat → Nat × Nat
  | 0 => (500000000, 500000000)
  | k + 1 => (isq (1000000000 * (rootP k).1), isq (1000000000 * (rootP k).2 - 1) + 1)
theorem isq_bd {n : Nat} (h : n < 1000000000000000000) : isq n < 1000000000 := by
  have h1 := isq_le n
  rcases Nat.lt_or_ge (isq n) 1000000000 with h2 | h2
  · exact h2
  · have := sq_mono h2; omega
theorem isq_pos {n : Nat} (h : 1 ≤ n) : 1 ≤ isq n := by
  have h1 := isq_lt n
  rcases Nat.eq_zero_or_pos (isq n) with h2 | h2
  · rw [h2] at h1; omega
  · exact h2
theorem rootP_bd : ∀ k, 1 ≤ (rootP k).1 ∧ (rootP k).1 < 1000000000 ∧ 1 ≤ (rootP k).2 ∧ (rootP k).2 ≤ 1000000000
  | 0 => by unfold rootP; simp
  | k + 1 => by
    obtain ⟨h1, h2, h3, h4⟩ := rootP_bd k
    unfold rootP
    refine ⟨isq_pos (by omega), isq_bd (by omega), by simp, ?_⟩
    have := isq_bd (n := 1000000000 * (rootP k).2 - 1) (by omega)
    show isq _ + 1 ≤ _
    omega
noncomputable def rcs (k : Nat) : List Value := (List.range k).flatMap fun j => [.int .i64 (rootP j).1, .int .i64 (rootP j).2]
theorem rcs_succ (k : Nat) : rcs (k + 1) = rcs k ++ [.int .i64 (rootP k).1, .int .i64 (rootP k).2] := by
  unfold rcs; rw [List.range_succ, List.flatMap_append]; rfl
theorem own_one2 (w : World) (base : Nat) (x y : Value) (e : TypeId) (hb : base ≤ w.heap.size) : (w.alloc (.cells #[x, y] e)).ownsRow base e 2 (.slice (some ⟨w.heap.size, 0, none⟩) 1 1) 1 [x, y] :=
  ⟨rfl, .inr ⟨w.heap.size, 1, #[x, y], rfl, hb, heap_alloc_new w _, Nat.le_refl _, by unfold maxLen; omega, rfl, rfl⟩⟩
theorem own_block1 {w : World} {base : Nat} {e : TypeId} {s n : Nat} {v : Value} {xs : List Value} (h : w.ownsRow base e s v n xs) : ∀ k, v.ownBlock = some k → base ≤ k := by
  intro k hk
  rcases h.2 with ⟨rfl, _⟩ | ⟨g, cap, cur, rfl, hb, _⟩
  · simp [Value.ownBlock] at hk
  · simp [Value.ownBlock] at hk; omega
/-- A slice of the call's own that holds the roots of the levels up to L. -/
def RootsAt (w : World) (v : Value) (L base : Nat) : Prop := ∃ b cap, v = .slice (some ⟨b, 0, none⟩) (L + 1) cap ∧ b < w.heap.size ∧ base ≤ b ∧ L + 1 ≤ cap ∧ cap ≤ maxLen ∧ ∀ k u, (rcs (L + 1))[k]? = some u → w.cell? ⟨b, k, none⟩ = some u
theorem roots_own {w : World} {base L : Nat} {e : TypeId} {v : Value} (h : w.ownsRow (base + 1) e 2 v (L + 1) (rcs (L + 1))) : RootsAt w v L base := by
  rcases h.2 with ⟨_, h0⟩ | ⟨g, cap, cur, rfl, hb, hg, hle, hmx, _⟩
  · omega
  · refine ⟨g, cap, rfl, (Array.getElem?_eq_some_iff.1 hg).1, by omega, hle, hmx, fun k u hk => ?_⟩
    have c := World.ownsRow.cells h (g := g) rfl k u hk
    unfold Addr.add at c
    split at c
    · rename_i hz; subst hz; exact c
    · simpa using c
theorem infoRange : (Try.prog.info? 34).map (fun i => (i.zero, i.size, i.bytes)) = some (some (.agg #[.int .i64 0, .int .i64 0]), 2, 16) := by kernel_rfl
theorem squareRoot_is (n : Int) (k r : Nat) (w : World) (hk : n = (k : Int)) (hn : k ≤ 1000000000000000000) (hr : Hid (isq k = r)) :
    Calls Try.prog 94 #[.int .i64 n] w fun e w' => e = .returned (.int .i64 r) ∧ w = w' := by
  subst hk
  rw [← hr.out]
  exact squareRoot_any k w hn
set_option maxRecDepth 100000 in
set_option maxHeartbeats 2000000 in
theorem rootsTo_any (L : Nat) (w : World) (hL : L ≤ 40) :
    Calls Try.prog 58 #[.int .i64 L] w fun e w' => ∃ v, e = .returned v ∧ RootsAt w' v L w.heap.size ∧ Below w.heap.size w w' := by
  obtain ⟨i0, hi, hz0, hz1, hz2⟩ := info_parts infoRange
  have HI := Lib.hid hi
  have HZ0 := Lib.hid hz0
  have HZ1 := Lib.hid hz1
  have HZ2 := Lib.hid hz2
  clear hi hz0 hz1 hz2
  go_enter Try.func58, Try.ntmps58
  go_wp2
  go_loopw [4, 9] (fun v i wr => ∃ (k : Nat), i = .int .i64 k ∧ k ≤ L ∧ Hid (wr.ownsRow (w.heap.size + 1) 34 2 v (k + 1) (rcs (k + 1))) ∧ wr.cell? ⟨w.heap.size, 0, none⟩ = some (.int .i64 (rootP k).1) ∧ wr.cell? ⟨w.heap.size, 1, none⟩ = some (.int .i64 (rootP k).2) ∧ (∀ j, wr.frozen? ⟨w.heap.size, j, none⟩ = false) ∧ w.heap.size + 1 ≤ wr.heap.size ∧ Below w.heap.size w wr) (fun _ i _ => L - (intOf i).toNat)
  case atStart =>
    refine ⟨0, rfl, by omega, ?_, by simp [go_sem, World.cell?_alloc_past, rootP], by simp [go_sem, World.cell?_alloc_past, rootP], by intro j; simp [go_sem], by simp, (by (repeat (first | (with_reducible refine Below.drew ?_) | (with_reducible refine below_drewN ?_ _) | (with_reducible refine Below.alloc ?_ (by first | omega | (simp; done) | (simp; omega) | (simp at *; omega)) _) | (with_reducible refine Below.setCell ?_ (by first | omega | (simp; done) | (simp; omega) | (simp at *; omega)) _) | (with_reducible exact Below.refl _ _) | (with_reducible assumption) | (with_reducible refine Below.trans ?_ (Below.mono (by assumption) (by first | omega | (simp; done) | (simp; omega) | (simp at *; omega)))))))⟩
    have e : rcs (0 + 1) = [.int .i64 500000000, .int .i64 500000000] := rfl
    show World.ownsRow _ _ _ _ _ _ _
    rw [e]
    have := own_one2 (w.alloc (.cells #[.int .i64 500000000, .int .i64 500000000] 34)) (w.heap.size + 1) (.int .i64 500000000) (.int .i64 500000000) 34 (by simp)
    simpa using this
  case round =>
    obtain ⟨k, rfl, hk, HO, c0, c1, fz, sz, hB⟩ := hrel
    by_cases hkl : k < L
    · obtain ⟨b1, b2, b3, b4⟩ := rootP_bd k
      obtain ⟨x, hx⟩ : ∃ x, Hid ((rootP k).1 = x) := ⟨_, rfl⟩
      obtain ⟨y, hy⟩ : ∃ x, Hid ((rootP k).2 = x) := ⟨_, rfl⟩
      obtain ⟨x', hx'⟩ : ∃ r, Hid (isq (1000000000 * x) = r) := ⟨_, rfl⟩
      obtain ⟨y', hy'⟩ : ∃ r, Hid (isq (1000000000 * y - 1) = r) := ⟨_, rfl⟩
      rw [hx.out] at c0 b1 b2
      rw [hy.out] at c1 b3 b4
      have e1 : IntKind.i64.wrap (1000000000 * (x : Int)) = 1000000000 * x := IntWalk.i64_in _ (by omega)
      have e2 : IntKind.i64.wrap (1000000000 * (y : Int)) = 1000000000 * y := IntWalk.i64_in _ (by omega)
      have e3 : IntKind.i64.wrap (1000000000 * (y : Int) - 1) = 1000000000 * y - 1 := IntWalk.i64_in _ (by omega)
      have y9 : y' < 1000000000 := by rw [← hy'.out]; exact isq_bd (by omega)
      have e4 : IntKind.i64.wrap ((y' : Int) + 1) = y' + 1 := IntWalk.i64_in _ (by omega)
      go_wp2
      have HN : Hid (rootP (k + 1) = (x', y' + 1)) := by show _ = _; rw [rootP, hx.out, hy.out, hx'.out, hy'.out]
      go_region_with (first
        | (go_at_call 94; ((with_reducible refine (squareRoot_is (1000000000 * (x : Int)) (1000000000 * x) x' _ (by omega) (by omega) hx').mono ?_)); rintro e w' ⟨rfl, rfl⟩)
        | (go_at_call 94; ((with_reducible refine (squareRoot_is (1000000000 * (y : Int) - 1) (1000000000 * y - 1) y' _ (by omega) (by omega) hy').mono ?_)); rintro e w' ⟨rfl, rfl⟩))
      all_goals
        go_wp2_with (at_builtin; refine wpList_append_own_at _ rfl _ _ 98 rfl (w.heap.size + 1) 34 i0 (.agg #[.int .i64 0, .int .i64 0]) 2 16 Try.underlying98 HI.out HZ0.out HZ1.out HZ2.out rfl (by decide) _ _ _ rfl (by exact World.ownsRow.alloc (ownsRow_setCell_below (ownsRow_setCell_below HO.out (by simp) _) (by simp) _).drew _) ⟨wr.heap.size, 0, none⟩ 1 1 [.int .i64 x', .int .i64 (y' + 1)] rfl rfl ?c0 ?c1 ?c2 ?c3 ?c4 ?_)
        case c0 =>
          intro j u hj
          match j, hj with
          | 0, hj => simp at hj; subst hj; simp [Addr.add, go_sem]
          | 1, hj => simp at hj; subst hj; simp [Addr.add, go_sem]
        case c1 => intro u hu; simp at hu; rcases hu with rfl | rfl <;> rfl
        case c2 => unfold maxLen; omega
        case c3 => omega
        case c4 => simp; omega
        intro v' w5 hown hgrow hnn hblk
        have ob := own_block1 HO.out
        have n1 : w.heap.size < wr.heap.size := by omega
        have n2 : wr.heap.size ≠ w.heap.size := by omega
        have n3 : ¬ w.heap.size = wr.heap.size := by omega
        have hB0 : Below w.heap.size w ((((wr.setCell ⟨w.heap.size, 0, none⟩ (.int .i64 x')).setCell ⟨w.heap.size, 1, none⟩ (.int .i64 (y' + 1))).alloc (.cells #[.int .i64 x', .int .i64 (y' + 1)] 34)).drew) := (by (repeat (first | (with_reducible refine Below.drew ?_) | (with_reducible refine below_drewN ?_ _) | (with_reducible refine Below.alloc ?_ (by first | omega | (simp; done) | (simp; omega) | (simp at *; omega)) _) | (with_reducible refine Below.setCell ?_ (by first | omega | (simp; done) | (simp; omega) | (simp at *; omega)) _) | (with_reducible exact Below.refl _ _) | (with_reducible assumption) | (with_reducible refine Below.trans ?_ (Below.mono (by assumption) (by first | omega | (simp; done) | (simp; omega) | (simp at *; omega)))))))
        have hB5 : Below w.heap.size w w5 := hB0.grown hgrow (by simp; omega) (fun q hq => by have := ob q hq; omega)
        have hB6 := (Below.refl (w.heap.size + 1) _).grown hgrow (by simp; omega) (fun q hq => by have := ob q hq; omega)
        have d0 : w5.cell? ⟨w.heap.size, 0, none⟩ = some (.int .i64 x') := by rw [hB6.cell (p := ⟨w.heap.size, 0, none⟩) (by simp)]; simp [go_sem, World.cell?_alloc_past, c0, c1, n1, n2, n3]
        have d1 : w5.cell? ⟨w.heap.size, 1, none⟩ = some (.int .i64 (y' + 1)) := by rw [hB6.cell (p := ⟨w.heap.size, 1, none⟩) (by simp)]; simp [go_sem, World.cell?_alloc_past, c0, c1, n1, n2, n3]
        have d2 : ∀ j, w5.frozen? ⟨w.heap.size, j, none⟩ = false := fun j => by rw [hB6.frozen (p := ⟨w.heap.size, j, none⟩) (by simp)]; simp [go_sem, fz, n1, n2, n3]
        have s5 : w.heap.size + 1 ≤ w5.heap.size := by have := hgrow.size; simp at this; omega
        have HOW : Hid (w5.ownsRow (w.heap.size + 1) 34 2 v' (k + 1 + 1) (rcs (k + 1 + 1))) := by
          show World.ownsRow _ _ _ _ _ _ _
          rw [rcs_succ, HN.out]
          exact hown
        have HN0 : (rootP (k + 1)).1 = x' := by rw [HN.out]
        have HN1 : (rootP (k + 1)).2 = y' + 1 := by rw [HN.out]
        clear hown hgrow hnn hblk HO hB6 hB0 ob c0 c1 fz
        go_wp2
        go_roundw
        case rel => exact ⟨k + 1, by go_num, by omega, HOW, by rw [HN0]; exact d0, by rw [HN1]; exact d1, d2, s5, hB5⟩
        case measure => (simp [intOf]) <;> omega
    · have hkk : k = L := by omega
      subst hkk
      go_wp2
      go_ret
      exact ⟨_, rfl, roots_own HO.out, hB⟩
end Go.Proofs.Ytbdiljbjddppcaa
