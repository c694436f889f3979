import Derived.Test.YtfaodlcfjhnhbaaLeaf
import Derived.Outline
import Derived.Maps.AppendAt
import Derived.OwnWalk
/- A number divided, rounded down and up; a part of a number in parts of a thousand million. -/
namespace Go.Proofs.Ytfaodlcfjhnhbaa
open Go.ChangeShapes Go.WideShapes Go.ChangeAt Go.RowKit
set_option linter.unusedVariables false
set_option linter.unusedSimpArgs false

theorem divide_any (n d : Int) (w : World) (h0 : 0 ≤ n) (h1 : n ≤ 2000000000000000000) (h2 : 0 < d) (h3 : d ≤ 1000000000000000000) :
    Calls Try.prog 75 #[.int .i64 n, .int .i64 d] w fun e w' => e = .returned (.agg #[.int .i64 (n / d), .int .i64 ((n + d - 1) / d)]) ∧ (w.alloc (.cells #[.int .i64 (n / d), .int .i64 ((n + d - 1) / d)] 47)).drew = w' := by
  have hq : IntKind.i64.wrap (n.tdiv d) = n / d := by
    rw [Int.tdiv_eq_ediv_of_nonneg h0]
    have a1 : 0 ≤ n / d := Int.ediv_nonneg h0 (by omega)
    have a2 : n / d ≤ n := Int.ediv_le_self _ h0
    exact IntWalk.i64_in _ (by omega)
  have hq2 : IntKind.i64.wrap ((n + d - 1).tdiv d) = (n + d - 1) / d := by
    rw [Int.tdiv_eq_ediv_of_nonneg (by omega)]
    have a1 : 0 ≤ (n + d - 1) / d := Int.ediv_nonneg (by omega) (by omega)
    have a2 : (n + d - 1) / d ≤ n + d - 1 := Int.ediv_le_self _ (by omega)
    exact IntWalk.i64_in _ (by omega)
  have hs1 : IntKind.i64.wrap (n + d) = n + d := IntWalk.i64_in _ (by omega)
  have hs2 : IntKind.i64.wrap (n + d - 1) = n + d - 1 := IntWalk.i64_in _ (by omega)
  have hd : ¬ d = 0 := by omega
  have k1 : 1 ≤ d := by omega
  have k2 : 0 ≤ n + d - 1 := by omega
  go_enter Try.func75, Try.ntmps75
  go_wp2
  go_region_held3 (fun w' => True) (trivial) (fail)
  go_wp2
  refine bodyPost_ret (v := .agg #[.int .i64 (n / d), .int .i64 ((n + d - 1) / d)]) (by simp [results, Try.results75, go_sem]) rfl ⟨rfl, rfl⟩
/-- A part of a number, in parts of a thousand million: rounded down, and up. -/
def shLo (n p : Int) : Int := n * p / 1000000000
def shHi (n p : Int) : Int := (n * p + 1000000000 - 1) / 1000000000
theorem share_any (n p : Int) (w : World) (h0 : 0 ≤ n) (h1 : n ≤ 2000000000) (p0 : 0 ≤ p) (p1 : p ≤ 1000000000) :
    Calls Try.prog 74 #[.int .i64 n, .int .i64 p] w fun e w' => e = .returned (.agg #[.int .i64 (shLo n p), .int .i64 (shHi n p)]) ∧ Below w.heap.size w w' := by
  have hm : 0 ≤ n * p ∧ n * p ≤ 2000000000000000000 := ⟨Int.mul_nonneg h0 p0, Int.le_trans (Int.mul_le_mul h1 p1 p0 (by omega)) (by omega)⟩
  obtain ⟨m0, m1⟩ := hm
  have hw : IntKind.i64.wrap (n * p) = n * p := IntWalk.i64_in _ (by omega)
  go_enter Try.func74, Try.ntmps74
  go_wp2_with fail
  refine (divide_any (n * p) 1000000000 _ m0 m1 (by omega) (by omega)).mono ?_
  rintro e w1 ⟨rfl, rfl⟩
  go_wp2
  refine bodyPost_ret (v := .agg #[.int .i64 (shLo n p), .int .i64 (shHi n p)]) (by simp [results, Try.results74, go_sem, World.cell?_alloc_past, shLo, shHi]) rfl ⟨rfl, ?_⟩
  (repeat (first | (with_reducible refine Below.drew ?_) | (with_reducible refine below_drewN ?_ _) | (with_reducible refine Below.alloc ?_ (by first | omega | (simp; done) | (simp; omega) | (simp at *; omega)) _) | (with_reducible refine Below.setCell ?_ (by first | omega | (simp; done) | (simp; omega) | (simp at *; omega)) _) | (with_reducible exact Below.refl _ _) | (with_reducible assumption) | (with_reducible refine Below.trans ?_ (Below.mono (by assumption) (by first | omega | (simp; done) | (simp; omega) | (simp at *; omega))))))
end Go.Proofs.Ytfaodlcfjhnhbaa

/- Square roots, rounded down: what tissue.squareRoot and the base's Root return. -/
namespace Go.Proofs.Ytfaodlcfjhnhbaa
open Go.ChangeShapes Go.WideShapes Go.ChangeAt Go.RowKit
set_option linter.unusedVariables false
set_option linter.unusedSimpArgs false

theorem isq_ex (n : Nat) : ∃ r, r * r ≤ n ∧ n < (r + 1) * (r + 1) := by
  induction n with
  | zero => exact ⟨0, by omega, by omega⟩
  | succ n ih =>
    obtain ⟨r, h1, h2⟩ := ih
    by_cases h : n + 1 < (r + 1) * (r + 1)
    · exact ⟨r, by omega, h⟩
    · refine ⟨r + 1, by omega, ?_⟩
      have : (r + 1 + 1) * (r + 1 + 1) = (r + 1) * (r + 1) + 2 * (r + 1) + 1 := by grind
      omega
/-- The square root, rounded down. -/
noncomputable def isq (n : Nat) : Nat := Classical.choose (isq_ex n)
theorem isq_le (n : Nat) : isq n * isq n ≤ n := (Classical.choose_spec (isq_ex n)).1
theorem isq_lt (n : Nat) : n < (isq n + 1) * (isq n + 1) := (Classical.choose_spec (isq_ex n)).2
theorem sq_mono {a b : Nat} (h : a ≤ b) : a * a ≤ b * b := Nat.mul_le_mul h h
theorem isq_one {n r : Nat} (h1 : r * r ≤ n) (h2 : n < (r + 1) * (r + 1)) : isq n = r := by
  have h3 := isq_le n
  have h4 := isq_lt n
  rcases Nat.lt_trichotomy (isq n) r with h | h | h
  · have := sq_mono (show isq n + 1 ≤ r by omega); omega
  · exact h
  · have := sq_mono (show r + 1 ≤ isq n by omega); omega
/-- A step from above comes nearer, and stays at or above the root. -/
theorem newton {n r : Nat} (hr : 0 < r) : n < ((r + n / r) / 2 + 1) * ((r + n / r) / 2 + 1) := by
  have h1 : n < r * (n / r + 1) := by
    have := Nat.div_add_mod n r
    have := Nat.mod_lt n hr
    rw [Nat.mul_add, Nat.mul_one]
    omega
  generalize n / r = q at h1
  have h2 : r + q + 1 ≤ 2 * ((r + q) / 2 + 1) := by omega
  generalize (r + q) / 2 + 1 = m at h2
  have h3 := sq_mono h2
  have h4 : 4 * (r * (q + 1)) ≤ (r + q + 1) * (r + q + 1) := by
    rcases Nat.le_total r (q + 1) with h | h
    · obtain ⟨d, hd⟩ := Nat.exists_eq_add_of_le h
      have : r + q + 1 = 2 * r + d := by omega
      rw [this, hd]; grind
    · obtain ⟨d, hd⟩ := Nat.exists_eq_add_of_le h
      have : r + q + 1 = 2 * (q + 1) + d := by omega
      rw [this, hd]; grind
  have h5 : 2 * m * (2 * m) = 4 * (m * m) := by grind
  omega
theorem newton_lt {n r : Nat} (hr : 0 < r) (h : n < r * r) : (r + n / r) / 2 < r := by
  have : n / r < r := (Nat.div_lt_iff_lt_mul hr).2 h
  omega
set_option maxHeartbeats 1000000 in
theorem squareRoot_any (n : Nat) (w : World) (hn : n ≤ 1000000000000000000) :
    Calls Try.prog 56 #[.int .i64 n] w fun e w' => e = .returned (.int .i64 (isq n)) ∧ w = w' := by
  obtain ⟨s, hs⟩ : ∃ s, Hid (isq n = s) := ⟨_, rfl⟩
  rw [hs.out]
  go_enter Try.func56, Try.ntmps56
  go_wp2
  go_loop [3] (fun x => ∃ r : Nat, x = .int .i64 r ∧ r ≤ 1000000000 ∧ Hid (n < (r + 1) * (r + 1))) (fun x => (intOf x).toNat)
  case atStart => exact ⟨1000000000, rfl, by omega, by show _ < _; omega⟩
  case round =>
    obtain ⟨r, rfl, hr, hlt⟩ := hrel
    obtain ⟨m, hm⟩ : ∃ m : Nat, Hid (r * r = m) := ⟨_, rfl⟩
    have m0 : (r : Int) * r = m := by rw [← hm.out]; simp
    have m1 : m ≤ 1000000000000000000 := by rw [← hm.out]; exact Nat.le_trans (sq_mono hr) (by omega)
    have m2 : IntKind.i64.wrap ((r : Int) * r) = m := by rw [m0]; exact IntWalk.i64_in _ (by omega)
    by_cases hc : m ≤ n
    · have he : Hid (s = r) := by
        show _ = _
        rw [← hs.out]
        exact isq_one (by rw [hm.out]; exact hc) hlt.out
      have hc2 : ¬ (n : Int) < m := by omega
      clear hs hlt hm
      go_wp2
      go_ret
      exact ⟨by rw [he.out]; first | rfl | (simp; done), rfl⟩
    · have hr0 : 0 < r := by
        rcases r with _ | r
        · have := hm.out; omega
        · omega
      obtain ⟨q, hq⟩ : ∃ q : Nat, Hid ((r + n / r) / 2 = q) := ⟨_, rfl⟩
      obtain ⟨t, ht⟩ : ∃ t : Nat, Hid (n / r = t) := ⟨_, rfl⟩
      have q1 : q < r := by rw [← hq.out]; exact newton_lt hr0 (by rw [hm.out]; omega)
      have q2 : Hid (n < (q + 1) * (q + 1)) := by show _ < _; rw [← hq.out]; exact newton hr0
      have t1 : t ≤ 1000000000000000000 := by rw [← ht.out]; exact Nat.le_trans (Nat.div_le_self _ _) hn
      have d1 : (n : Int).tdiv r = t := by rw [Int.tdiv_eq_ediv_of_nonneg (by omega), ← ht.out]; simp
      have d2 : IntKind.i64.wrap ((n : Int).tdiv r) = t := by rw [d1]; exact IntWalk.i64_in _ (by omega)
      have d3 : (n : Int) / r = t := by rw [← ht.out]; simp
      have d4 : IntKind.i64.wrap (t : Int) = t := IntWalk.i64_in _ (by omega)
      have d5 : IntKind.i64.wrap ((r : Int) + t) = (r : Int) + t := IntWalk.i64_in _ (by omega)
      have d6 : ((r : Int) + t).tdiv 2 = q := by
        rw [Int.tdiv_eq_ediv_of_nonneg (by omega), ← hq.out, ht.out]
        omega
      have d7 : ((r : Int) + t) / 2 = q := by
        rw [← hq.out, ht.out]
        omega
      have d8 : IntKind.i64.wrap (q : Int) = q := IntWalk.i64_in _ (by omega)
      have r1 : (1 : Int) ≤ r := by omega
      have r2 : ¬ (r : Int) = 0 := by omega
      have r3 : (0 : Int) ≤ n := by omega
      have r4 : (0 : Int) ≤ (r : Int) + t := by omega
      have c1 : (n : Int) < m := by omega
      clear hm hlt hq ht
      go_wp2
      go_round
      case rel => exact ⟨q, rfl, by omega, q2⟩
      case measure => (simp [intOf]) <;> omega
end Go.Proofs.Ytfaodlcfjhnhbaa

/- What tissue.rootsTo returns: the roots of the levels, one after the other. -/
namespace Go.Proofs.Ytfaodlcfjhnhbaa
open Go.ChangeShapes Go.WideShapes Go.ChangeAt Go.RowKit
set_option linter.unusedVariables false
set_option linter.unusedSimpArgs false

/-- The root of a level: its lower and its upper end. -/
noncomputable def rootP : Nat → Nat × Nat
  | 0 => (500000000, 500000000)
  | k + 1 => (isq (1000000000 * (rootP k).1), isq (1000000000 * (rootP k).2 - 1) + 1)
theorem isq_bd {n : Nat} (h : n < 1000000000000000000) : isq n < 1000000000 := by
  have h1 := isq_le n
  rcases Nat.lt_or_ge (isq n) 1000000000 with h2 | h2
  · exact h2
  · have := sq_mono h2; omega
theorem isq_pos {n : Nat} (h : 1 ≤ n) : 1 ≤ isq n := by
  have h1 := isq_lt n
  rcases Nat.eq_zero_or_pos (isq n) with h2 | h2
  · rw [h2] at h1; omega
  · exact h2
theorem rootP_bd : ∀ k, 1 ≤ (rootP k).1 ∧ (rootP k).1 < 1000000000 ∧ 1 ≤ (rootP k).2 ∧ (rootP k).2 ≤ 1000000000
  | 0 => by unfold rootP; simp
  | k + 1 => by
    obtain ⟨h1, h2, h3, h4⟩ := rootP_bd k
    unfold rootP
    refine ⟨isq_pos (by omega), isq_bd (by omega), by simp, ?_⟩
    have := isq_bd (n := 1000000000 * (rootP k).2 - 1) (by omega)
    show isq _ + 1 ≤ _
    omega
noncomputable def rcs (k : Nat) : List Value := (List.range k).flatMap fun j => [.int .i64 (rootP j).1, .int .i64 (rootP j).2]
theorem rcs_succ (k : Nat) : rcs (k + 1) = rcs k ++ [.int .i64 (rootP k).1, .int .i64 (rootP k).2] := by
  unfold rcs; rw [List.range_succ, List.flatMap_append]; rfl
theorem own_one2 (w : World) (base : Nat) (x y : Value) (e : TypeId) (hb : base ≤ w.heap.size) : (w.alloc (.cells #[x, y] e)).ownsRow base e 2 (.slice (some ⟨w.heap.size, 0, none⟩) 1 1) 1 [x, y] :=
  ⟨rfl, .inr ⟨w.heap.size, 1, #[x, y], rfl, hb, heap_alloc_new w _, Nat.le_refl _, by unfold maxLen; omega, rfl, rfl⟩⟩
theorem own_block1 {w : World} {base : Nat} {e : TypeId} {s n : Nat} {v : Value} {xs : List Value} (h : w.ownsRow base e s v n xs) : ∀ k, v.ownBlock = some k → base ≤ k := by
  intro k hk
  rcases h.2 with ⟨rfl, _⟩ | ⟨g, cap, cur, rfl, hb, _⟩
  · simp [Value.ownBlock] at hk
  · simp [Value.ownBlock] at hk; omega
/-- A slice of the call's own that holds the roots of the levels up to L. -/
def RootsAt (w : World) (v : Value) (L base : Nat) : Prop := ∃ b cap, v = .slice (some ⟨b, 0, none⟩) (L + 1) cap ∧ b < w.heap.size ∧ base ≤ b ∧ L + 1 ≤ cap ∧ cap ≤ maxLen ∧ ∀ k u, (rcs (L + 1))[k]? = some u → w.cell? ⟨b, k, none⟩ = some u
theorem roots_own {w : World} {base L : Nat} {e : TypeId} {v : Value} (h : w.ownsRow (base + 1) e 2 v (L + 1) (rcs (L + 1))) : RootsAt w v L base := by
  rcases h.2 with ⟨_, h0⟩ | ⟨g, cap, cur, rfl, hb, hg, hle, hmx, _⟩
  · omega
  · refine ⟨g, cap, rfl, (Array.getElem?_eq_some_iff.1 hg).1, by omega, hle, hmx, fun k u hk => ?_⟩
    have c := World.ownsRow.cells h (g := g) rfl k u hk
    unfold Addr.add at c
    split at c
    · rename_i hz; subst hz; exact c
    · simpa using c
theorem infoRange : (Try.prog.info? 47).map (fun i => (i.zero, i.size, i.bytes)) = some (some (.agg #[.int .i64 0, .int .i64 0]), 2, 16) := by kernel_rfl
theorem squareRoot_is (n : Int) (k r : Nat) (w : World) (hk : n = (k : Int)) (hn : k ≤ 1000000000000000000) (hr : Hid (isq k = r)) :
    Calls Try.prog 56 #[.int .i64 n] w fun e w' => e = .returned (.int .i64 r) ∧ w = w' := by
  subst hk
  rw [← hr.out]
  exact squareRoot_any k w hn
set_option maxRecDepth 100000 in
set_option maxHeartbeats 2000000 in
theorem rootsTo_any (L : Nat) (w : World) (hL : L ≤ 40) :
    Calls Try.prog 40 #[.int .i64 L] w fun e w' => ∃ v, e = .returned v ∧ RootsAt w' v L w.heap.size ∧ Below w.heap.size w w' := by
  obtain ⟨i0, hi, hz0, hz1, hz2⟩ := info_parts infoRange
  have HI := Lib.hid hi
  have HZ0 := Lib.hid hz0
  have HZ1 := Lib.hid hz1
  have HZ2 := Lib.hid hz2
  clear hi hz0 hz1 hz2
  go_enter Try.func40, Try.ntmps40
  go_wp2
  go_loopw [4, 9] (fun v i wr => ∃ (k : Nat), i = .int .i64 k ∧ k ≤ L ∧ Hid (wr.ownsRow (w.heap.size + 1) 47 2 v (k + 1) (rcs (k + 1))) ∧ wr.cell? ⟨w.heap.size, 0, none⟩ = some (.int .i64 (rootP k).1) ∧ wr.cell? ⟨w.heap.size, 1, none⟩ = some (.int .i64 (rootP k).2) ∧ (∀ j, wr.frozen? ⟨w.heap.size, j, none⟩ = false) ∧ w.heap.size + 1 ≤ wr.heap.size ∧ Below w.heap.size w wr) (fun _ i _ => L - (intOf i).toNat)
  case atStart =>
    refine ⟨0, rfl, by omega, ?_, by simp [go_sem, World.cell?_alloc_past, rootP], by simp [go_sem, World.cell?_alloc_past, rootP], by intro j; simp [go_sem], by simp, (by (repeat (first | (with_reducible refine Below.drew ?_) | (with_reducible refine below_drewN ?_ _) | (with_reducible refine Below.alloc ?_ (by first | omega | (simp; done) | (simp; omega) | (simp at *; omega)) _) | (with_reducible refine Below.setCell ?_ (by first | omega | (simp; done) | (simp; omega) | (simp at *; omega)) _) | (with_reducible exact Below.refl _ _) | (with_reducible assumption) | (with_reducible refine Below.trans ?_ (Below.mono (by assumption) (by first | omega | (simp; done) | (simp; omega) | (simp at *; omega)))))))⟩
    have e : rcs (0 + 1) = [.int .i64 500000000, .int .i64 500000000] := rfl
    show World.ownsRow _ _ _ _ _ _ _
    rw [e]
    have := own_one2 (w.alloc (.cells #[.int .i64 500000000, .int .i64 500000000] 47)) (w.heap.size + 1) (.int .i64 500000000) (.int .i64 500000000) 47 (by simp)
    simpa using this
  case round =>
    obtain ⟨k, rfl, hk, HO, c0, c1, fz, sz, hB⟩ := hrel
    by_cases hkl : k < L
    · obtain ⟨b1, b2, b3, b4⟩ := rootP_bd k
      obtain ⟨x, hx⟩ : ∃ x, Hid ((rootP k).1 = x) := ⟨_, rfl⟩
      obtain ⟨y, hy⟩ : ∃ x, Hid ((rootP k).2 = x) := ⟨_, rfl⟩
      obtain ⟨x', hx'⟩ : ∃ r, Hid (isq (1000000000 * x) = r) := ⟨_, rfl⟩
      obtain ⟨y', hy'⟩ : ∃ r, Hid (isq (1000000000 * y - 1) = r) := ⟨_, rfl⟩
      rw [hx.out] at c0 b1 b2
      rw [hy.out] at c1 b3 b4
      have e1 : IntKind.i64.wrap (1000000000 * (x : Int)) = 1000000000 * x := IntWalk.i64_in _ (by omega)
      have e2 : IntKind.i64.wrap (1000000000 * (y : Int)) = 1000000000 * y := IntWalk.i64_in _ (by omega)
      have e3 : IntKind.i64.wrap (1000000000 * (y : Int) - 1) = 1000000000 * y - 1 := IntWalk.i64_in _ (by omega)
      have y9 : y' < 1000000000 := by rw [← hy'.out]; exact isq_bd (by omega)
      have e4 : IntKind.i64.wrap ((y' : Int) + 1) = y' + 1 := IntWalk.i64_in _ (by omega)
      go_wp2
      have HN : Hid (rootP (k + 1) = (x', y' + 1)) := by show _ = _; rw [rootP, hx.out, hy.out, hx'.out, hy'.out]
      go_region_with (first
        | (go_at_call 56; ((with_reducible refine (squareRoot_is (1000000000 * (x : Int)) (1000000000 * x) x' _ (by omega) (by omega) hx').mono ?_)); rintro e w' ⟨rfl, rfl⟩)
        | (go_at_call 56; ((with_reducible refine (squareRoot_is (1000000000 * (y : Int) - 1) (1000000000 * y - 1) y' _ (by omega) (by omega) hy').mono ?_)); rintro e w' ⟨rfl, rfl⟩))
      all_goals
        go_wp2_with (at_builtin; refine wpList_append_own_at _ rfl _ _ 80 rfl (w.heap.size + 1) 47 i0 (.agg #[.int .i64 0, .int .i64 0]) 2 16 Try.underlying80 HI.out HZ0.out HZ1.out HZ2.out rfl (by decide) _ _ _ rfl (by exact World.ownsRow.alloc (ownsRow_setCell_below (ownsRow_setCell_below HO.out (by simp) _) (by simp) _).drew _) ⟨wr.heap.size, 0, none⟩ 1 1 [.int .i64 x', .int .i64 (y' + 1)] rfl rfl ?c0 ?c1 ?c2 ?c3 ?c4 ?_)
        case c0 =>
          intro j u hj
          match j, hj with
          | 0, hj => simp at hj; subst hj; simp [Addr.add, go_sem]
          | 1, hj => simp at hj; subst hj; simp [Addr.add, go_sem]
        case c1 => intro u hu; simp at hu; rcases hu with rfl | rfl <;> rfl
        case c2 => unfold maxLen; omega
        case c3 => omega
        case c4 => simp; omega
        intro v' w5 hown hgrow hnn hblk
        have ob := own_block1 HO.out
        have n1 : w.heap.size < wr.heap.size := by omega
        have n2 : wr.heap.size ≠ w.heap.size := by omega
        have n3 : ¬ w.heap.size = wr.heap.size := by omega
        have hB0 : Below w.heap.size w ((((wr.setCell ⟨w.heap.size, 0, none⟩ (.int .i64 x')).setCell ⟨w.heap.size, 1, none⟩ (.int .i64 (y' + 1))).alloc (.cells #[.int .i64 x', .int .i64 (y' + 1)] 47)).drew) := (by (repeat (first | (with_reducible refine Below.drew ?_) | (with_reducible refine below_drewN ?_ _) | (with_reducible refine Below.alloc ?_ (by first | omega | (simp; done) | (simp; omega) | (simp at *; omega)) _) | (with_reducible refine Below.setCell ?_ (by first | omega | (simp; done) | (simp; omega) | (simp at *; omega)) _) | (with_reducible exact Below.refl _ _) | (with_reducible assumption) | (with_reducible refine Below.trans ?_ (Below.mono (by assumption) (by first | omega | (simp; done) | (simp; omega) | (simp at *; omega)))))))
        have hB5 : Below w.heap.size w w5 := hB0.grown hgrow (by simp; omega) (fun q hq => by have := ob q hq; omega)
        have hB6 := (Below.refl (w.heap.size + 1) _).grown hgrow (by simp; omega) (fun q hq => by have := ob q hq; omega)
        have d0 : w5.cell? ⟨w.heap.size, 0, none⟩ = some (.int .i64 x') := by rw [hB6.cell (p := ⟨w.heap.size, 0, none⟩) (by simp)]; simp [go_sem, World.cell?_alloc_past, c0, c1, n1, n2, n3]
        have d1 : w5.cell? ⟨w.heap.size, 1, none⟩ = some (.int .i64 (y' + 1)) := by rw [hB6.cell (p := ⟨w.heap.size, 1, none⟩) (by simp)]; simp [go_sem, World.cell?_alloc_past, c0, c1, n1, n2, n3]
        have d2 : ∀ j, w5.frozen? ⟨w.heap.size, j, none⟩ = false := fun j => by rw [hB6.frozen (p := ⟨w.heap.size, j, none⟩) (by simp)]; simp [go_sem, fz, n1, n2, n3]
        have s5 : w.heap.size + 1 ≤ w5.heap.size := by have := hgrow.size; simp at this; omega
        have HOW : Hid (w5.ownsRow (w.heap.size + 1) 47 2 v' (k + 1 + 1) (rcs (k + 1 + 1))) := by
          show World.ownsRow _ _ _ _ _ _ _
          rw [rcs_succ, HN.out]
          exact hown
        have HN0 : (rootP (k + 1)).1 = x' := by rw [HN.out]
        have HN1 : (rootP (k + 1)).2 = y' + 1 := by rw [HN.out]
        clear hown hgrow hnn hblk HO hB6 hB0 ob c0 c1 fz
        go_wp2
        go_roundw
        case rel => exact ⟨k + 1, by go_num, by omega, HOW, by rw [HN0]; exact d0, by rw [HN1]; exact d1, d2, s5, hB5⟩
        case measure => (simp [intOf]) <;> omega
    · have hkk : k = L := by omega
      subst hkk
      go_wp2
      go_ret
      exact ⟨_, rfl, roots_own HO.out, hB⟩
end Go.Proofs.Ytfaodlcfjhnhbaa
