import Derived.Test.YtfaodlcfjhnhbaaDecM
import Derived.Test.YtfaodlcfjhnhbaaMBase
import Derived.Test.YtfaodlcfjhnhbaaMSmall
import Derived.Outline
import Derived.Test.YtfaodlcfjhnhbaaMRoots
/- Steps and marks of a leg; what is breathed: what the small functions of package tissue return. -/
namespace Go.Proofs.Ytfaodlcfjhnhbaa
open Go.ChangeShapes Go.WideShapes Go.ChangeAt Go.RowKit
set_option linter.unusedVariables false
set_option linter.unusedSimpArgs false

/-- A leg: pressures, seconds, gas. -/
structure Leg where
  f : Int
  t : Int
  s : Int
  o : Int
  h : Int
def Leg.ok (x : Leg) : Prop := (400 ≤ x.f ∧ x.f ≤ 31100) ∧ (400 ≤ x.t ∧ x.t ≤ 31100) ∧ (0 ≤ x.s ∧ x.s ≤ 100000) ∧ gasE x.o x.h = 0
/-- How many steps there are with a fineness. -/
def stN (s : Int) (n : Nat) : Int := if s = 0 then 0 else ((2 ^ n : Nat) : Int)
set_option maxHeartbeats 1000000 in
theorem stepCount_any (f t s o h : Int) (v : Value) (n : Nat) (w : World) (hv : v.oneCell' = true) (hn : n ≤ 6) :
    Calls Try.prog 66 #[.agg #[.int .i64 f, .int .i64 t, .int .i64 s, .int .i64 o, .int .i64 h, v, .int .i64 n]] w fun e w' => e = .returned (.int .i64 (stN s n)) ∧ Below w.heap.size w w' := by
  by_cases hs : s = 0
  · have hr : Hid (stN s n = 0) := if_pos hs
    have hb : (s == 0) = true := by simp [hs]
    clear hs
    go_enter Try.func66, Try.ntmps66
    go_wp2
    go_ret
    exact ⟨ret_int hr.out.symm, (by (repeat (first | (with_reducible refine Below.drew ?_) | (with_reducible refine below_drewN ?_ _) | (with_reducible refine Below.alloc ?_ (by first | omega | (simp; done) | (simp; omega) | (simp at *; omega)) _) | (with_reducible refine Below.setCell ?_ (by first | omega | (simp; done) | (simp; omega) | (simp at *; omega)) _) | (with_reducible exact Below.refl _ _) | (with_reducible assumption) | (with_reducible refine Below.trans ?_ (Below.mono (by assumption) (by first | omega | (simp; done) | (simp; omega) | (simp at *; omega)))))))⟩
  · have hb : (s == 0) = false := by simp [hs]
    have hr : Hid (stN s n = ((2 ^ n : Nat) : Int)) := if_neg hs
    clear hs
    obtain rfl | rfl | rfl | rfl | rfl | rfl | rfl : n = 0 ∨ n = 1 ∨ n = 2 ∨ n = 3 ∨ n = 4 ∨ n = 5 ∨ n = 6 := by omega
    all_goals
      go_enter Try.func66, Try.ntmps66
      go_wp2
      go_ret
      exact ⟨ret_int (by rw [hr.out]; rfl), (by (repeat (first | (with_reducible refine Below.drew ?_) | (with_reducible refine below_drewN ?_ _) | (with_reducible refine Below.alloc ?_ (by first | omega | (simp; done) | (simp; omega) | (simp at *; omega)) _) | (with_reducible refine Below.setCell ?_ (by first | omega | (simp; done) | (simp; omega) | (simp at *; omega)) _) | (with_reducible exact Below.refl _ _) | (with_reducible assumption) | (with_reducible refine Below.trans ?_ (Below.mono (by assumption) (by first | omega | (simp; done) | (simp; omega) | (simp at *; omega)))))))⟩
theorem exactly_any (n : Int) (w : World) :
    Calls Try.prog 37 #[.int .i64 n] w fun e w' => e = .returned (.agg #[.int .i64 n, .int .i64 n]) ∧ Below w.heap.size w w' := by
  go_enter Try.func37, Try.ntmps37
  go_wp2
  refine bodyPost_ret (v := .agg #[.int .i64 n, .int .i64 n]) (by simp [results, Try.results37, go_sem]) rfl ⟨rfl, ?_⟩
  (repeat (first | (with_reducible refine Below.drew ?_) | (with_reducible refine below_drewN ?_ _) | (with_reducible refine Below.alloc ?_ (by first | omega | (simp; done) | (simp; omega) | (simp at *; omega)) _) | (with_reducible refine Below.setCell ?_ (by first | omega | (simp; done) | (simp; omega) | (simp at *; omega)) _) | (with_reducible exact Below.refl _ _) | (with_reducible assumption) | (with_reducible refine Below.trans ?_ (Below.mono (by assumption) (by first | omega | (simp; done) | (simp; omega) | (simp at *; omega))))))
theorem pressuresOf_any (a b c d a' b' c' d' : Int) (w : World) :
    Calls Try.prog 67 #[.agg #[.int .i64 a, .int .i64 b, .int .i64 c, .int .i64 d], .agg #[.int .i64 a', .int .i64 b', .int .i64 c', .int .i64 d']] w fun e w' => e = .returned (.agg #[.int .i64 (min c c'), .int .i64 (max d d')]) ∧ Below w.heap.size w w' := by
  by_cases h1 : c' < c <;> by_cases h2 : d < d'
  · have e1 : min c c' = c' := by omega
    have e2 : max d d' = d' := by omega
    go_enter Try.func67, Try.ntmps67
    go_wp2
    all_goals
      refine bodyPost_ret (v := .agg #[.int .i64 c', .int .i64 d']) (by simp [results, Try.results67, go_sem, World.cell?_alloc_past]) rfl ⟨by first | rfl | rw [e1, e2], ?_⟩
      (repeat (first | (with_reducible refine Below.drew ?_) | (with_reducible refine below_drewN ?_ _) | (with_reducible refine Below.alloc ?_ (by first | omega | (simp; done) | (simp; omega) | (simp at *; omega)) _) | (with_reducible refine Below.setCell ?_ (by first | omega | (simp; done) | (simp; omega) | (simp at *; omega)) _) | (with_reducible exact Below.refl _ _) | (with_reducible assumption) | (with_reducible refine Below.trans ?_ (Below.mono (by assumption) (by first | omega | (simp; done) | (simp; omega) | (simp at *; omega))))))
  · have e1 : min c c' = c' := by omega
    have e2 : max d d' = d := by omega
    go_enter Try.func67, Try.ntmps67
    go_wp2
    all_goals
      refine bodyPost_ret (v := .agg #[.int .i64 c', .int .i64 d]) (by simp [results, Try.results67, go_sem, World.cell?_alloc_past]) rfl ⟨by first | rfl | rw [e1, e2], ?_⟩
      (repeat (first | (with_reducible refine Below.drew ?_) | (with_reducible refine below_drewN ?_ _) | (with_reducible refine Below.alloc ?_ (by first | omega | (simp; done) | (simp; omega) | (simp at *; omega)) _) | (with_reducible refine Below.setCell ?_ (by first | omega | (simp; done) | (simp; omega) | (simp at *; omega)) _) | (with_reducible exact Below.refl _ _) | (with_reducible assumption) | (with_reducible refine Below.trans ?_ (Below.mono (by assumption) (by first | omega | (simp; done) | (simp; omega) | (simp at *; omega))))))
  · have e1 : min c c' = c := by omega
    have e2 : max d d' = d' := by omega
    go_enter Try.func67, Try.ntmps67
    go_wp2
    all_goals
      refine bodyPost_ret (v := .agg #[.int .i64 c, .int .i64 d']) (by simp [results, Try.results67, go_sem, World.cell?_alloc_past]) rfl ⟨by first | rfl | rw [e1, e2], ?_⟩
      (repeat (first | (with_reducible refine Below.drew ?_) | (with_reducible refine below_drewN ?_ _) | (with_reducible refine Below.alloc ?_ (by first | omega | (simp; done) | (simp; omega) | (simp at *; omega)) _) | (with_reducible refine Below.setCell ?_ (by first | omega | (simp; done) | (simp; omega) | (simp at *; omega)) _) | (with_reducible exact Below.refl _ _) | (with_reducible assumption) | (with_reducible refine Below.trans ?_ (Below.mono (by assumption) (by first | omega | (simp; done) | (simp; omega) | (simp at *; omega))))))
  · have e1 : min c c' = c := by omega
    have e2 : max d d' = d := by omega
    go_enter Try.func67, Try.ntmps67
    go_wp2
    all_goals
      refine bodyPost_ret (v := .agg #[.int .i64 c, .int .i64 d]) (by simp [results, Try.results67, go_sem, World.cell?_alloc_past]) rfl ⟨by first | rfl | rw [e1, e2], ?_⟩
      (repeat (first | (with_reducible refine Below.drew ?_) | (with_reducible refine below_drewN ?_ _) | (with_reducible refine Below.alloc ?_ (by first | omega | (simp; done) | (simp; omega) | (simp at *; omega)) _) | (with_reducible refine Below.setCell ?_ (by first | omega | (simp; done) | (simp; omega) | (simp at *; omega)) _) | (with_reducible exact Below.refl _ _) | (with_reducible assumption) | (with_reducible refine Below.trans ?_ (Below.mono (by assumption) (by first | omega | (simp; done) | (simp; omega) | (simp at *; omega))))))
theorem NitrogenOf_good (o h : Int) (w : World) (hg : Hid (gasE o h = 0)) :
    Calls Try.prog 73 #[.agg #[.int .i64 o, .int .i64 h]] w fun e w' => e = .returned (.tuple #[.int .i64 (1000 - o - h), .int .i64 0]) ∧ Below w.heap.size w w' := by
  obtain ⟨a1, a2, a3, a4, a5⟩ := gasE_z hg.out
  have hc : ∀ w, Calls Try.prog 45 #[.agg #[.int .i64 o, .int .i64 h]] w fun e w' => e = .returned (.int .i64 0) ∧ Below w.heap.size w w' := fun w => by
    have := CheckGas_any o h w
    rw [hg.out] at this
    exact this.mono fun e w' h => ⟨h.1, by rw [← h.2]; exact (by (repeat (first | (with_reducible refine Below.drew ?_) | (with_reducible refine below_drewN ?_ _) | (with_reducible refine Below.alloc ?_ (by first | omega | (simp; done) | (simp; omega) | (simp at *; omega)) _) | (with_reducible refine Below.setCell ?_ (by first | omega | (simp; done) | (simp; omega) | (simp at *; omega)) _) | (with_reducible exact Below.refl _ _) | (with_reducible assumption) | (with_reducible refine Below.trans ?_ (Below.mono (by assumption) (by first | omega | (simp; done) | (simp; omega) | (simp at *; omega)))))))⟩
  have HC := Lib.hid hc
  clear hc
  go_enter Try.func73, Try.ntmps73
  go_wp2_with ((go_at_call 45; ((with_reducible refine (HC.out _).mono ?_)); rintro e w1 ⟨rfl, hbw⟩; obtain ⟨hbc, hbf⟩ := bcell hbw; have hbs := hbw.size))
  have c0 : w1.cell? ⟨w.heap.size, 0, none⟩ = some (.int .i64 o) := by rw [hbc _ _ (by simp)]; simp [go_sem]
  have c1 : w1.cell? ⟨w.heap.size, 1, none⟩ = some (.int .i64 h) := by rw [hbc _ _ (by simp)]; simp [go_sem]
  go_wp2_with ((go_at_call 80; ((with_reducible refine (nitrogenOf_any _ _ _ a1 a2 a3 a4).mono ?_)); rintro e w' ⟨rfl, rfl⟩))
  go_ret2
  exact ⟨by first | rfl | (simp; done), (by (repeat (first | (with_reducible refine Below.drew ?_) | (with_reducible refine below_drewN ?_ _) | (with_reducible refine Below.alloc ?_ (by first | omega | (simp; done) | (simp; omega) | (simp at *; omega)) _) | (with_reducible refine Below.setCell ?_ (by first | omega | (simp; done) | (simp; omega) | (simp at *; omega)) _) | (with_reducible exact Below.refl _ _) | (with_reducible assumption) | (with_reducible refine Below.trans ?_ (Below.mono (by assumption) (by first | omega | (simp; done) | (simp; omega) | (simp at *; omega)))))))⟩
theorem inertOf_any (o h : Int) (w : World) (hg : Hid (gasE o h = 0)) :
    Calls Try.prog 53 #[.agg #[.int .i64 o, .int .i64 h]] w fun e w' => e = .returned (.agg #[.int .i64 (1000 - o - h), .int .i64 h]) ∧ Below w.heap.size w w' := by
  go_enter Try.func53, Try.ntmps53
  go_wp2_with fail
  refine (NitrogenOf_good o h _ hg).mono ?_
  rintro e w1 ⟨rfl, hbw1⟩
  obtain ⟨hbc, hbf⟩ := bcell hbw1
  have hbs := hbw1.size
  try simp at hbs
  have c1 : w1.cell? ⟨w.heap.size, 1, none⟩ = some (.int .i64 h) := by rw [hbc _ _ (by simp; omega)]; simp [go_sem, World.cell?_alloc_past]
  have d0 : w1.cell? ⟨w.heap.size + 1, 0, none⟩ = some (.int .i64 0) := by rw [hbc _ _ (by simp)]; simp [go_sem]
  have d1 : w1.cell? ⟨w.heap.size + 1, 1, none⟩ = some (.int .i64 0) := by rw [hbc _ _ (by simp)]; simp [go_sem]
  have f0 : ∀ j, w1.frozen? ⟨w.heap.size + 1, j, none⟩ = false := fun j => by rw [hbf _ _ (by simp)]; simp [go_sem]
  have hB1 : Below w.heap.size w w1 := (by (repeat (first | (with_reducible refine Below.drew ?_) | (with_reducible refine below_drewN ?_ _) | (with_reducible refine Below.alloc ?_ (by first | omega | (simp; done) | (simp; omega) | (simp at *; omega)) _) | (with_reducible refine Below.setCell ?_ (by first | omega | (simp; done) | (simp; omega) | (simp at *; omega)) _) | (with_reducible exact Below.refl _ _) | (with_reducible assumption) | (with_reducible refine Below.trans ?_ (Below.mono (by assumption) (by first | omega | (simp; done) | (simp; omega) | (simp at *; omega)))))))
  clear hbc hbf hbw1
  go_wp2
  refine bodyPost_ret (v := .agg #[.int .i64 (1000 - o - h), .int .i64 h]) (by simp [results, Try.results53, go_sem, *]) rfl ⟨rfl, ?_⟩
  (repeat (first | (with_reducible refine Below.drew ?_) | (with_reducible refine below_drewN ?_ _) | (with_reducible refine Below.alloc ?_ (by first | omega | (simp; done) | (simp; omega) | (simp at *; omega)) _) | (with_reducible refine Below.setCell ?_ (by first | omega | (simp; done) | (simp; omega) | (simp at *; omega)) _) | (with_reducible exact Below.refl _ _) | (with_reducible assumption) | (with_reducible refine Below.trans ?_ (Below.mono (by assumption) (by first | omega | (simp; done) | (simp; omega) | (simp at *; omega))))))
end Go.Proofs.Ytfaodlcfjhnhbaa

/- The marks of a leg, and what is breathed between two pressures. -/
namespace Go.Proofs.Ytfaodlcfjhnhbaa
open Go.ChangeShapes Go.WideShapes Go.ChangeAt Go.RowKit
set_option linter.unusedVariables false
set_option linter.unusedSimpArgs false

/-- The second of a mark; the pressure there, times the seconds of the leg; rounded down, and up. -/
def mkS (s : Int) (n : Nat) (j : Int) : Int := if s = 0 then 0 else j * s / ((2 ^ n : Nat) : Int)
def mkP (f t s q : Int) : Int := f * (s - q) + t * q
def mkLo (f t s : Int) (n : Nat) (j : Int) : Int := if s = 0 then f else mkP f t s (mkS s n j) / s
def mkHi (f t s : Int) (n : Nat) (j : Int) : Int := if s = 0 then f else (mkP f t s (mkS s n j) + s - 1) / s
theorem stN_bd {s : Int} (hs : ¬ s = 0) {n : Nat} (hn : n ≤ 6) : 1 ≤ stN s n ∧ stN s n ≤ 64 := by
  unfold stN
  rw [if_neg hs]
  obtain rfl | rfl | rfl | rfl | rfl | rfl | rfl : n = 0 ∨ n = 1 ∨ n = 2 ∨ n = 3 ∨ n = 4 ∨ n = 5 ∨ n = 6 := by omega
  all_goals decide
theorem mkS_bd {s j : Int} {n : Nat} (s0 : 0 ≤ s) (hn : n ≤ 6) (j0 : 0 ≤ j) (j1 : j ≤ ((2 ^ n : Nat) : Int)) : 0 ≤ mkS s n j ∧ mkS s n j ≤ s := by
  unfold mkS
  split
  · omega
  · rename_i hs
    have h2 := stN_bd hs hn
    unfold stN at h2
    rw [if_neg hs] at h2
    refine ⟨Int.ediv_nonneg (Int.mul_nonneg j0 s0) (by omega), ?_⟩
    have h1 : j * s ≤ ((2 ^ n : Nat) : Int) * s := Int.mul_le_mul_of_nonneg_right j1 s0
    exact Int.ediv_le_of_le_mul (by omega) (by rw [Int.mul_comm s]; exact h1)
theorem mkP_bd {f t s q : Int} (f0 : 400 ≤ f) (f1 : f ≤ 31100) (t0 : 400 ≤ t) (t1 : t ≤ 31100) (q0 : 0 ≤ q) (q1 : q ≤ s) : 400 * s ≤ mkP f t s q ∧ mkP f t s q ≤ 31100 * s := by
  have a1 : 400 * (s - q) ≤ f * (s - q) := Int.mul_le_mul_of_nonneg_right f0 (by omega)
  have a2 : f * (s - q) ≤ 31100 * (s - q) := Int.mul_le_mul_of_nonneg_right f1 (by omega)
  have a3 : 400 * q ≤ t * q := Int.mul_le_mul_of_nonneg_right t0 q0
  have a4 : t * q ≤ 31100 * q := Int.mul_le_mul_of_nonneg_right t1 q0
  unfold mkP
  omega
theorem mk_bd {f t s j : Int} {n : Nat} (f0 : 400 ≤ f) (f1 : f ≤ 31100) (t0 : 400 ≤ t) (t1 : t ≤ 31100) (s0 : 0 ≤ s) (hn : n ≤ 6) (j0 : 0 ≤ j) (j1 : j ≤ ((2 ^ n : Nat) : Int)) :
    400 ≤ mkLo f t s n j ∧ mkLo f t s n j ≤ mkHi f t s n j ∧ mkHi f t s n j ≤ 31100 := by
  obtain ⟨q0, q1⟩ := mkS_bd (n := n) s0 hn j0 j1
  unfold mkLo mkHi
  split
  · omega
  · rename_i hs
    obtain ⟨p0, p1⟩ := mkP_bd f0 f1 t0 t1 q0 q1
    generalize mkP f t s (mkS s n j) = P at *
    refine ⟨Int.le_ediv_of_mul_le (by omega) p0, Int.ediv_le_ediv (by omega) (by omega), ?_⟩
    have : (P + s - 1) / s < 31101 := Int.ediv_lt_of_lt_mul (by omega) (by omega)
    omega
theorem mul_wrap {a b p : Int} (h : a * b = p) (h0 : 0 ≤ p) (h1 : p ≤ 1000000000000000000) : IntKind.i64.wrap (a * b) = p := by rw [h]; exact IntWalk.i64_in _ (by omega)
theorem stepCount_is (f t s o h : Int) (v : Value) (n : Nat) (w : World) (N : Int) (hv : v.oneCell' = true) (hn : n ≤ 6) (hN : Hid (stN s n = N)) :
    Calls Try.prog 66 #[.agg #[.int .i64 f, .int .i64 t, .int .i64 s, .int .i64 o, .int .i64 h, v, .int .i64 n]] w fun e w' => e = .returned (.int .i64 N) ∧ Below w.heap.size w w' := by
  rw [← hN.out]; exact stepCount_any f t s o h v n w hv hn
set_option maxHeartbeats 1000000 in
theorem mark_0 (f t s o h j : Int) (A : Option Addr) (len cap : Nat) (n : Nat) (w : World) (f0 : 400 ≤ f) (f1 : f ≤ 31100) (t0 : 400 ≤ t) (t1 : t ≤ 31100) (s0 : 0 ≤ s) (s1 : s ≤ 100000) (hn : n ≤ 6) (j0 : 0 ≤ j) (j1 : j ≤ ((2 ^ n : Nat) : Int)) (hs : s = 0) :
    Calls Try.prog 64 #[.agg #[.int .i64 f, .int .i64 t, .int .i64 s, .int .i64 o, .int .i64 h, .slice A len cap, .int .i64 n], .int .i64 j] w fun e w' => e = .returned (.agg #[.int .i64 j, .int .i64 (mkS s n j), .int .i64 (mkLo f t s n j), .int .i64 (mkHi f t s n j)]) ∧ Below w.heap.size w w' := by
  have r1 : Hid (mkS s n j = 0 ∧ mkLo f t s n j = f ∧ mkHi f t s n j = f) := ⟨if_pos hs, if_pos hs, if_pos hs⟩
  obtain ⟨N, hN⟩ : ∃ x, Hid (stN s n = x) := ⟨_, rfl⟩
  have hN0 : (N == 0) = true := by rw [← hN.out, stN, if_pos hs]; rfl
  clear hs
  rw [r1.out.1, r1.out.2.1, r1.out.2.2]
  go_enter Try.func64, Try.ntmps64
  go_wp2_with fail
  refine (stepCount_is f t s o h (.slice A len cap) n _ N rfl hn hN).mono ?_
  rintro e w1 ⟨rfl, hbw1⟩
  have z1 := hbw1.size
  try simp at z1
  have c1_0_0 : w1.cell? ⟨w.heap.size, 0, none⟩ = some (.int .i64 f) := by rw [(bcell hbw1).1 _ _ (by first | (simp; done) | (simp; omega) | omega)]; simp [go_sem, World.cell?_alloc_past, *]
  have c1_0_1 : w1.cell? ⟨w.heap.size, 1, none⟩ = some (.int .i64 t) := by rw [(bcell hbw1).1 _ _ (by first | (simp; done) | (simp; omega) | omega)]; simp [go_sem, World.cell?_alloc_past, *]
  have c1_0_2 : w1.cell? ⟨w.heap.size, 2, none⟩ = some (.int .i64 s) := by rw [(bcell hbw1).1 _ _ (by first | (simp; done) | (simp; omega) | omega)]; simp [go_sem, World.cell?_alloc_past, *]
  have c1_0_3 : w1.cell? ⟨w.heap.size, 3, none⟩ = some (.int .i64 o) := by rw [(bcell hbw1).1 _ _ (by first | (simp; done) | (simp; omega) | omega)]; simp [go_sem, World.cell?_alloc_past, *]
  have c1_0_4 : w1.cell? ⟨w.heap.size, 4, none⟩ = some (.int .i64 h) := by rw [(bcell hbw1).1 _ _ (by first | (simp; done) | (simp; omega) | omega)]; simp [go_sem, World.cell?_alloc_past, *]
  have c1_0_5 : w1.cell? ⟨w.heap.size, 5, none⟩ = some (.slice A len cap) := by rw [(bcell hbw1).1 _ _ (by first | (simp; done) | (simp; omega) | omega)]; simp [go_sem, World.cell?_alloc_past, *]
  have c1_0_6 : w1.cell? ⟨w.heap.size, 6, none⟩ = some (.int .i64 n) := by rw [(bcell hbw1).1 _ _ (by first | (simp; done) | (simp; omega) | omega)]; simp [go_sem, World.cell?_alloc_past, *]
  have c1_1_0 : w1.cell? ⟨w.heap.size + 1, 0, none⟩ = some (.int .i64 0) := by rw [(bcell hbw1).1 _ _ (by first | (simp; done) | (simp; omega) | omega)]; simp [go_sem, World.cell?_alloc_past, *]
  have c1_1_1 : w1.cell? ⟨w.heap.size + 1, 1, none⟩ = some (.int .i64 0) := by rw [(bcell hbw1).1 _ _ (by first | (simp; done) | (simp; omega) | omega)]; simp [go_sem, World.cell?_alloc_past, *]
  have c1_1_2 : w1.cell? ⟨w.heap.size + 1, 2, none⟩ = some (.int .i64 0) := by rw [(bcell hbw1).1 _ _ (by first | (simp; done) | (simp; omega) | omega)]; simp [go_sem, World.cell?_alloc_past, *]
  have c1_1_3 : w1.cell? ⟨w.heap.size + 1, 3, none⟩ = some (.int .i64 0) := by rw [(bcell hbw1).1 _ _ (by first | (simp; done) | (simp; omega) | omega)]; simp [go_sem, World.cell?_alloc_past, *]
  have f1_1 : ∀ j, w1.frozen? ⟨w.heap.size + 1, j, none⟩ = false := fun j => by rw [(bcell hbw1).2 _ _ (by first | (simp; done) | (simp; omega) | omega)]; simp [go_sem, *]
  have hB1 : Below w.heap.size w w1 := (by (repeat (first | (with_reducible refine Below.drew ?_) | (with_reducible refine below_drewN ?_ _) | (with_reducible refine Below.alloc ?_ (by first | omega | (simp; done) | (simp; omega) | (simp at *; omega)) _) | (with_reducible refine Below.setCell ?_ (by first | omega | (simp; done) | (simp; omega) | (simp at *; omega)) _) | (with_reducible exact Below.refl _ _) | (with_reducible assumption) | (with_reducible refine Below.trans ?_ (Below.mono (by assumption) (by first | omega | (simp; done) | (simp; omega) | (simp at *; omega)))))))
  have o1_0 : w.heap.size < w1.heap.size := by omega
  have n1_0 : w1.heap.size ≠ w.heap.size := by omega
  have t1_0_1 : w.heap.size < w1.heap.size + 1 := by omega
  have t1_0_2 : w.heap.size < w1.heap.size + 1 + 1 := by omega
  have t1_0_3 : w.heap.size < w1.heap.size + 1 + 1 + 1 := by omega
  have t1_0_4 : w.heap.size < w1.heap.size + 1 + 1 + 1 + 1 := by omega
  have t1_0_5 : w.heap.size < w1.heap.size + 1 + 1 + 1 + 1 + 1 := by omega
  have o1_1 : w.heap.size + 1 < w1.heap.size := by omega
  have n1_1 : w1.heap.size ≠ w.heap.size + 1 := by omega
  have t1_1_1 : w.heap.size + 1 < w1.heap.size + 1 := by omega
  have t1_1_2 : w.heap.size + 1 < w1.heap.size + 1 + 1 := by omega
  have t1_1_3 : w.heap.size + 1 < w1.heap.size + 1 + 1 + 1 := by omega
  have t1_1_4 : w.heap.size + 1 < w1.heap.size + 1 + 1 + 1 + 1 := by omega
  have t1_1_5 : w.heap.size + 1 < w1.heap.size + 1 + 1 + 1 + 1 + 1 := by omega
  have bb1 : w.heap.size ≤ w1.heap.size := by omega
  clear hbw1
  go_wp2_with fail
  refine (exactly_any f _).mono ?_
  rintro e w2 ⟨rfl, hbw2⟩
  have z2 := hbw2.size
  try simp at z2
  have c2_0_0 : w2.cell? ⟨w.heap.size + 1, 0, none⟩ = some (.int .i64 0) := by rw [(bcell hbw2).1 _ _ (by first | (simp; done) | (simp; omega) | omega)]; simp [go_sem, World.cell?_alloc_past, *]
  have c2_0_1 : w2.cell? ⟨w.heap.size + 1, 1, none⟩ = some (.int .i64 0) := by rw [(bcell hbw2).1 _ _ (by first | (simp; done) | (simp; omega) | omega)]; simp [go_sem, World.cell?_alloc_past, *]
  have c2_0_2 : w2.cell? ⟨w.heap.size + 1, 2, none⟩ = some (.int .i64 0) := by rw [(bcell hbw2).1 _ _ (by first | (simp; done) | (simp; omega) | omega)]; simp [go_sem, World.cell?_alloc_past, *]
  have c2_0_3 : w2.cell? ⟨w.heap.size + 1, 3, none⟩ = some (.int .i64 0) := by rw [(bcell hbw2).1 _ _ (by first | (simp; done) | (simp; omega) | omega)]; simp [go_sem, World.cell?_alloc_past, *]
  have f2_0 : ∀ j, w2.frozen? ⟨w.heap.size + 1, j, none⟩ = false := fun j => by rw [(bcell hbw2).2 _ _ (by first | (simp; done) | (simp; omega) | omega)]; simp [go_sem, *]
  have hB2 : Below w.heap.size w w2 := (by (repeat (first | (with_reducible refine Below.drew ?_) | (with_reducible refine below_drewN ?_ _) | (with_reducible refine Below.alloc ?_ (by first | omega | (simp; done) | (simp; omega) | (simp at *; omega)) _) | (with_reducible refine Below.setCell ?_ (by first | omega | (simp; done) | (simp; omega) | (simp at *; omega)) _) | (with_reducible exact Below.refl _ _) | (with_reducible assumption) | (with_reducible refine Below.trans ?_ (Below.mono (by assumption) (by first | omega | (simp; done) | (simp; omega) | (simp at *; omega)))))))
  clear c1_0_0 c1_0_1 c1_0_2 c1_0_3 c1_0_4 c1_0_5 c1_0_6 c1_1_0 c1_1_1 c1_1_2 c1_1_3 f1_1 o1_0 n1_0 t1_0_1 t1_0_2 t1_0_3 t1_0_4 t1_0_5 o1_1 n1_1 t1_1_1 t1_1_2 t1_1_3 t1_1_4 t1_1_5
  have o2_0 : w.heap.size + 1 < w2.heap.size := by omega
  have n2_0 : w2.heap.size ≠ w.heap.size + 1 := by omega
  have t2_0_1 : w.heap.size + 1 < w2.heap.size + 1 := by omega
  have t2_0_2 : w.heap.size + 1 < w2.heap.size + 1 + 1 := by omega
  have t2_0_3 : w.heap.size + 1 < w2.heap.size + 1 + 1 + 1 := by omega
  have t2_0_4 : w.heap.size + 1 < w2.heap.size + 1 + 1 + 1 + 1 := by omega
  have t2_0_5 : w.heap.size + 1 < w2.heap.size + 1 + 1 + 1 + 1 + 1 := by omega
  have bb2 : w.heap.size ≤ w2.heap.size := by omega
  clear hbw2
  go_wp2
  refine bodyPost_ret (v := .agg #[.int .i64 j, .int .i64 0, .int .i64 f, .int .i64 f]) (by simp [results, Try.results64, go_sem, *]) rfl ⟨rfl, ?_⟩
  (repeat (first | (with_reducible refine Below.drew ?_) | (with_reducible refine below_drewN ?_ _) | (with_reducible refine Below.alloc ?_ (by first | omega | (simp; done) | (simp; omega) | (simp at *; omega)) _) | (with_reducible refine Below.setCell ?_ (by first | omega | (simp; done) | (simp; omega) | (simp at *; omega)) _) | (with_reducible exact Below.refl _ _) | (with_reducible assumption) | (with_reducible refine Below.trans ?_ (Below.mono (by assumption) (by first | omega | (simp; done) | (simp; omega) | (simp at *; omega))))))
set_option maxHeartbeats 1000000 in
theorem mark_1 (f t s o h j : Int) (A : Option Addr) (len cap : Nat) (n : Nat) (w : World) (f0 : 400 ≤ f) (f1 : f ≤ 31100) (t0 : 400 ≤ t) (t1 : t ≤ 31100) (s0 : 0 ≤ s) (s1 : s ≤ 100000) (hn : n ≤ 6) (j0 : 0 ≤ j) (j1 : j ≤ ((2 ^ n : Nat) : Int)) (hs : ¬ s = 0) :
    Calls Try.prog 64 #[.agg #[.int .i64 f, .int .i64 t, .int .i64 s, .int .i64 o, .int .i64 h, .slice A len cap, .int .i64 n], .int .i64 j] w fun e w' => e = .returned (.agg #[.int .i64 j, .int .i64 (mkS s n j), .int .i64 (mkLo f t s n j), .int .i64 (mkHi f t s n j)]) ∧ Below w.heap.size w w' := by
  obtain ⟨N, hN⟩ : ∃ x, Hid (stN s n = x) := ⟨_, rfl⟩
  obtain ⟨N1, N2⟩ := stN_bd hs hn
  rw [hN.out] at N1 N2
  obtain ⟨q, hq⟩ : ∃ x, Hid (mkS s n j = x) := ⟨_, rfl⟩
  obtain ⟨q0, q1⟩ := mkS_bd (n := n) s0 hn j0 j1
  rw [hq.out] at q0 q1
  obtain ⟨PP, hPP⟩ : ∃ x, Hid (mkP f t s q = x) := ⟨_, rfl⟩
  obtain ⟨p0, p1⟩ := mkP_bd f0 f1 t0 t1 q0 q1
  rw [hPP.out] at p0 p1
  have r1 : Hid (mkS s n j = q ∧ mkLo f t s n j = PP / s ∧ mkHi f t s n j = (PP + s - 1) / s) := ⟨hq.out, by rw [mkLo, if_neg hs, hq.out, hPP.out], by rw [mkHi, if_neg hs, hq.out, hPP.out]⟩
  obtain ⟨P0, hP0⟩ : ∃ x, Hid (j * s = x) := ⟨_, rfl⟩
  have b0 : 0 ≤ P0 := by rw [← hP0.out]; exact Int.mul_nonneg j0 s0
  have b1 : P0 ≤ 6400000 := by
    rw [← hP0.out]
    have : j ≤ 64 := by have := hN.out; rw [stN, if_neg hs] at this; omega
    exact Int.le_trans (Int.mul_le_mul this s1 s0 (by omega)) (by omega)
  have hqN : Hid (P0 / N = q) := by show _ = _; rw [← hq.out, ← hP0.out, mkS, if_neg hs, ← hN.out, stN, if_neg hs]
  obtain ⟨P1, hP1⟩ : ∃ x, Hid (f * (s - q) = x) := ⟨_, rfl⟩
  obtain ⟨P2, hP2⟩ : ∃ x, Hid (t * q = x) := ⟨_, rfl⟩
  have c0 : 0 ≤ P1 := by rw [← hP1.out]; exact Int.mul_nonneg (by omega) (by omega)
  have c1 : 0 ≤ P2 := by rw [← hP2.out]; exact Int.mul_nonneg (by omega) (by omega)
  have c2 : Hid (P1 + P2 = PP) := by show _ = _; rw [← hPP.out, mkP, hP1.out, hP2.out]
  have c3 : P1 + P2 ≤ 3110000000 := by have := c2.out; omega
  have e0 : IntKind.i64.wrap (j * s) = P0 := mul_wrap hP0.out b0 (by omega)
  have e1 : j * s = P0 := hP0.out
  have e2 : IntKind.i64.wrap (P0.tdiv N) = q := by rw [Int.tdiv_eq_ediv_of_nonneg b0, hqN.out]; exact IntWalk.i64_in _ (by omega)
  have e3 : P0 / N = q := hqN.out
  have e4 : IntKind.i64.wrap (f * (s - q)) = P1 := mul_wrap hP1.out c0 (by omega)
  have e5 : f * (s - q) = P1 := hP1.out
  have e6 : IntKind.i64.wrap (t * q) = P2 := mul_wrap hP2.out c1 (by omega)
  have e7 : t * q = P2 := hP2.out
  have hN0 : (N == 0) = false := by simpa using (show ¬ N = 0 by omega)
  have hN3 : ¬ N = 0 := by omega
  have hs0 : 0 < s := by omega
  clear hs hq hPP hqN hP0 hP1 hP2
  rw [r1.out.1, r1.out.2.1, r1.out.2.2]
  go_enter Try.func64, Try.ntmps64
  go_wp2_with fail
  refine (stepCount_is f t s o h (.slice A len cap) n _ N rfl hn hN).mono ?_
  rintro e w1 ⟨rfl, hbw1⟩
  have z1 := hbw1.size
  try simp at z1
  have c1_0_0 : w1.cell? ⟨w.heap.size, 0, none⟩ = some (.int .i64 f) := by rw [(bcell hbw1).1 _ _ (by first | (simp; done) | (simp; omega) | omega)]; simp [go_sem, World.cell?_alloc_past, *]
  have c1_0_1 : w1.cell? ⟨w.heap.size, 1, none⟩ = some (.int .i64 t) := by rw [(bcell hbw1).1 _ _ (by first | (simp; done) | (simp; omega) | omega)]; simp [go_sem, World.cell?_alloc_past, *]
  have c1_0_2 : w1.cell? ⟨w.heap.size, 2, none⟩ = some (.int .i64 s) := by rw [(bcell hbw1).1 _ _ (by first | (simp; done) | (simp; omega) | omega)]; simp [go_sem, World.cell?_alloc_past, *]
  have c1_0_3 : w1.cell? ⟨w.heap.size, 3, none⟩ = some (.int .i64 o) := by rw [(bcell hbw1).1 _ _ (by first | (simp; done) | (simp; omega) | omega)]; simp [go_sem, World.cell?_alloc_past, *]
  have c1_0_4 : w1.cell? ⟨w.heap.size, 4, none⟩ = some (.int .i64 h) := by rw [(bcell hbw1).1 _ _ (by first | (simp; done) | (simp; omega) | omega)]; simp [go_sem, World.cell?_alloc_past, *]
  have c1_0_5 : w1.cell? ⟨w.heap.size, 5, none⟩ = some (.slice A len cap) := by rw [(bcell hbw1).1 _ _ (by first | (simp; done) | (simp; omega) | omega)]; simp [go_sem, World.cell?_alloc_past, *]
  have c1_0_6 : w1.cell? ⟨w.heap.size, 6, none⟩ = some (.int .i64 n) := by rw [(bcell hbw1).1 _ _ (by first | (simp; done) | (simp; omega) | omega)]; simp [go_sem, World.cell?_alloc_past, *]
  have c1_1_0 : w1.cell? ⟨w.heap.size + 1, 0, none⟩ = some (.int .i64 0) := by rw [(bcell hbw1).1 _ _ (by first | (simp; done) | (simp; omega) | omega)]; simp [go_sem, World.cell?_alloc_past, *]
  have c1_1_1 : w1.cell? ⟨w.heap.size + 1, 1, none⟩ = some (.int .i64 0) := by rw [(bcell hbw1).1 _ _ (by first | (simp; done) | (simp; omega) | omega)]; simp [go_sem, World.cell?_alloc_past, *]
  have c1_1_2 : w1.cell? ⟨w.heap.size + 1, 2, none⟩ = some (.int .i64 0) := by rw [(bcell hbw1).1 _ _ (by first | (simp; done) | (simp; omega) | omega)]; simp [go_sem, World.cell?_alloc_past, *]
  have c1_1_3 : w1.cell? ⟨w.heap.size + 1, 3, none⟩ = some (.int .i64 0) := by rw [(bcell hbw1).1 _ _ (by first | (simp; done) | (simp; omega) | omega)]; simp [go_sem, World.cell?_alloc_past, *]
  have f1_1 : ∀ j, w1.frozen? ⟨w.heap.size + 1, j, none⟩ = false := fun j => by rw [(bcell hbw1).2 _ _ (by first | (simp; done) | (simp; omega) | omega)]; simp [go_sem, *]
  have hB1 : Below w.heap.size w w1 := (by (repeat (first | (with_reducible refine Below.drew ?_) | (with_reducible refine below_drewN ?_ _) | (with_reducible refine Below.alloc ?_ (by first | omega | (simp; done) | (simp; omega) | (simp at *; omega)) _) | (with_reducible refine Below.setCell ?_ (by first | omega | (simp; done) | (simp; omega) | (simp at *; omega)) _) | (with_reducible exact Below.refl _ _) | (with_reducible assumption) | (with_reducible refine Below.trans ?_ (Below.mono (by assumption) (by first | omega | (simp; done) | (simp; omega) | (simp at *; omega)))))))
  have o1_0 : w.heap.size < w1.heap.size := by omega
  have n1_0 : w1.heap.size ≠ w.heap.size := by omega
  have t1_0_1 : w.heap.size < w1.heap.size + 1 := by omega
  have t1_0_2 : w.heap.size < w1.heap.size + 1 + 1 := by omega
  have t1_0_3 : w.heap.size < w1.heap.size + 1 + 1 + 1 := by omega
  have t1_0_4 : w.heap.size < w1.heap.size + 1 + 1 + 1 + 1 := by omega
  have t1_0_5 : w.heap.size < w1.heap.size + 1 + 1 + 1 + 1 + 1 := by omega
  have o1_1 : w.heap.size + 1 < w1.heap.size := by omega
  have n1_1 : w1.heap.size ≠ w.heap.size + 1 := by omega
  have t1_1_1 : w.heap.size + 1 < w1.heap.size + 1 := by omega
  have t1_1_2 : w.heap.size + 1 < w1.heap.size + 1 + 1 := by omega
  have t1_1_3 : w.heap.size + 1 < w1.heap.size + 1 + 1 + 1 := by omega
  have t1_1_4 : w.heap.size + 1 < w1.heap.size + 1 + 1 + 1 + 1 := by omega
  have t1_1_5 : w.heap.size + 1 < w1.heap.size + 1 + 1 + 1 + 1 + 1 := by omega
  have bb1 : w.heap.size ≤ w1.heap.size := by omega
  clear hbw1
  go_wp2_with fail
  refine (divide_any (P1 + P2) s _ (by omega) (by omega) (by omega) (by omega)).mono ?_
  rintro e w2 ⟨rfl, rfl⟩
  rw [c2.out]
  go_wp2
  refine bodyPost_ret (v := .agg #[.int .i64 j, .int .i64 q, .int .i64 (PP / s), .int .i64 ((PP + s - 1) / s)]) (by simp [results, Try.results64, go_sem, World.cell?_alloc_past, *]) rfl ⟨rfl, ?_⟩
  (repeat (first | (with_reducible refine Below.drew ?_) | (with_reducible refine below_drewN ?_ _) | (with_reducible refine Below.alloc ?_ (by first | omega | (simp; done) | (simp; omega) | (simp at *; omega)) _) | (with_reducible refine Below.setCell ?_ (by first | omega | (simp; done) | (simp; omega) | (simp at *; omega)) _) | (with_reducible exact Below.refl _ _) | (with_reducible assumption) | (with_reducible refine Below.trans ?_ (Below.mono (by assumption) (by first | omega | (simp; done) | (simp; omega) | (simp at *; omega))))))
set_option maxHeartbeats 1000000 in
theorem mark_any (f t s o h j : Int) (A : Option Addr) (len cap : Nat) (n : Nat) (w : World) (f0 : 400 ≤ f) (f1 : f ≤ 31100) (t0 : 400 ≤ t) (t1 : t ≤ 31100) (s0 : 0 ≤ s) (s1 : s ≤ 100000) (hn : n ≤ 6) (j0 : 0 ≤ j) (j1 : j ≤ ((2 ^ n : Nat) : Int)) :
    Calls Try.prog 64 #[.agg #[.int .i64 f, .int .i64 t, .int .i64 s, .int .i64 o, .int .i64 h, .slice A len cap, .int .i64 n], .int .i64 j] w fun e w' => e = .returned (.agg #[.int .i64 j, .int .i64 (mkS s n j), .int .i64 (mkLo f t s n j), .int .i64 (mkHi f t s n j)]) ∧ Below w.heap.size w w' := by
  by_cases hs : s = 0
  · exact mark_0 f t s o h j A len cap n w f0 f1 t0 t1 s0 s1 hn j0 j1 hs
  · exact mark_1 f t s o h j A len cap n w f0 f1 t0 t1 s0 s1 hn j0 j1 hs
end Go.Proofs.Ytfaodlcfjhnhbaa

/- What is breathed of nitrogen and of helium between two pressures. -/
namespace Go.Proofs.Ytfaodlcfjhnhbaa
open Go.ChangeShapes Go.WideShapes Go.ChangeAt Go.RowKit
set_option linter.unusedVariables false
set_option linter.unusedSimpArgs false
set_option maxRecDepth 100000 in
set_option maxHeartbeats 1000000 in
theorem breathedOf_any (o h p q : Int) (w : World) (hg : Hid (gasE o h = 0)) (p0 : 400 ≤ p) (p1 : p ≤ 31100) (q0 : 400 ≤ q) (q1 : q ≤ 31100) :
    Calls Try.prog 36 #[.agg #[.int .i64 o, .int .i64 h], .agg #[.int .i64 p, .int .i64 q]] w fun e w' => e = .returned (.agg #[.int .i64 ((1000 - o - h) * (p - 63)), .int .i64 ((1000 - o - h) * (q - 63)), .int .i64 (h * (p - 63)), .int .i64 (h * (q - 63))]) ∧ Below w.heap.size w w' := by
  obtain ⟨a1, a2, a3, a4, a5⟩ := gasE_z hg.out
  obtain ⟨n, hn⟩ : ∃ x, Hid (1000 - o - h = x) := ⟨_, rfl⟩
  have n0 : 0 ≤ n := by have := hn.out; omega
  have n1 : n ≤ 1000 := by have := hn.out; omega
  have hi : ∀ w, Calls Try.prog 53 #[.agg #[.int .i64 o, .int .i64 h]] w fun e w' => e = .returned (.agg #[.int .i64 n, .int .i64 h]) ∧ Below w.heap.size w w' := fun w => by
    rw [← hn.out]; exact inertOf_any o h w hg
  have HIN := Lib.hid hi
  clear hi
  rw [hn.out]
  obtain ⟨B0, hB0⟩ : ∃ x, Hid (n * (p - 63) = x) := ⟨_, rfl⟩
  have uB0 : 0 ≤ B0 := by rw [← hB0.out]; exact Int.mul_nonneg (by omega) (by omega)
  have vB0 : B0 ≤ 100000000 := by rw [← hB0.out]; exact Int.le_trans (Int.mul_le_mul n1 (show p - 63 ≤ 100000 by omega) (by omega) (by omega)) (by omega)
  have xB0 : IntKind.i64.wrap (n * (p - 63)) = B0 := mul_wrap hB0.out uB0 (by omega)
  have yB0 : n * (p - 63) = B0 := hB0.out
  obtain ⟨B1, hB1⟩ : ∃ x, Hid (n * (q - 63) = x) := ⟨_, rfl⟩
  have uB1 : 0 ≤ B1 := by rw [← hB1.out]; exact Int.mul_nonneg (by omega) (by omega)
  have vB1 : B1 ≤ 100000000 := by rw [← hB1.out]; exact Int.le_trans (Int.mul_le_mul n1 (show q - 63 ≤ 100000 by omega) (by omega) (by omega)) (by omega)
  have xB1 : IntKind.i64.wrap (n * (q - 63)) = B1 := mul_wrap hB1.out uB1 (by omega)
  have yB1 : n * (q - 63) = B1 := hB1.out
  obtain ⟨B2, hB2⟩ : ∃ x, Hid (h * (p - 63) = x) := ⟨_, rfl⟩
  have uB2 : 0 ≤ B2 := by rw [← hB2.out]; exact Int.mul_nonneg (by omega) (by omega)
  have vB2 : B2 ≤ 100000000 := by rw [← hB2.out]; exact Int.le_trans (Int.mul_le_mul a4 (show p - 63 ≤ 100000 by omega) (by omega) (by omega)) (by omega)
  have xB2 : IntKind.i64.wrap (h * (p - 63)) = B2 := mul_wrap hB2.out uB2 (by omega)
  have yB2 : h * (p - 63) = B2 := hB2.out
  obtain ⟨B3, hB3⟩ : ∃ x, Hid (h * (q - 63) = x) := ⟨_, rfl⟩
  have uB3 : 0 ≤ B3 := by rw [← hB3.out]; exact Int.mul_nonneg (by omega) (by omega)
  have vB3 : B3 ≤ 100000000 := by rw [← hB3.out]; exact Int.le_trans (Int.mul_le_mul a4 (show q - 63 ≤ 100000 by omega) (by omega) (by omega)) (by omega)
  have xB3 : IntKind.i64.wrap (h * (q - 63)) = B3 := mul_wrap hB3.out uB3 (by omega)
  have yB3 : h * (q - 63) = B3 := hB3.out
  rw [hB0.out, hB1.out, hB2.out, hB3.out]
  clear hn hB0 hB1 hB2 hB3
  have i0 : ∀ w : World, (Instr.index 100 (.agg #[.int .i64 n, .int .i64 h]) (.int .i64 0)).run Try.prog w = .ok (.int .i64 n) w := fun _ => by kernel_rfl
  have i1 : ∀ w : World, (Instr.index 100 (.agg #[.int .i64 n, .int .i64 h]) (.int .i64 1)).run Try.prog w = .ok (.int .i64 h) w := fun _ => by kernel_rfl
  go_enter Try.func36, Try.ntmps36
  go_wp2_with fail
  refine (HIN.out _).mono ?_
  rintro e w1 ⟨rfl, hbw1⟩
  have z1 := hbw1.size
  try simp at z1
  have c1_0_0 : w1.cell? ⟨w.heap.size + 1, 0, none⟩ = some (.int .i64 p) := by rw [(bcell hbw1).1 _ _ (by first | (simp; done) | (simp; omega) | omega)]; simp [go_sem, World.cell?_alloc_past, *]
  have c1_0_1 : w1.cell? ⟨w.heap.size + 1, 1, none⟩ = some (.int .i64 q) := by rw [(bcell hbw1).1 _ _ (by first | (simp; done) | (simp; omega) | omega)]; simp [go_sem, World.cell?_alloc_past, *]
  have c1_1_0 : w1.cell? ⟨w.heap.size + 1 + 1, 0, none⟩ = some (.int .i64 0) := by rw [(bcell hbw1).1 _ _ (by first | (simp; done) | (simp; omega) | omega)]; simp [go_sem, World.cell?_alloc_past, *]
  have c1_1_1 : w1.cell? ⟨w.heap.size + 1 + 1, 1, none⟩ = some (.int .i64 0) := by rw [(bcell hbw1).1 _ _ (by first | (simp; done) | (simp; omega) | omega)]; simp [go_sem, World.cell?_alloc_past, *]
  have c1_1_2 : w1.cell? ⟨w.heap.size + 1 + 1, 2, none⟩ = some (.int .i64 0) := by rw [(bcell hbw1).1 _ _ (by first | (simp; done) | (simp; omega) | omega)]; simp [go_sem, World.cell?_alloc_past, *]
  have c1_1_3 : w1.cell? ⟨w.heap.size + 1 + 1, 3, none⟩ = some (.int .i64 0) := by rw [(bcell hbw1).1 _ _ (by first | (simp; done) | (simp; omega) | omega)]; simp [go_sem, World.cell?_alloc_past, *]
  have f1_1 : ∀ j, w1.frozen? ⟨w.heap.size + 1 + 1, j, none⟩ = false := fun j => by rw [(bcell hbw1).2 _ _ (by first | (simp; done) | (simp; omega) | omega)]; simp [go_sem, *]
  have c1_2_0 : w1.cell? ⟨w.heap.size + 1 + 1 + 1, 0, none⟩ = some (.int .i64 0) := by rw [(bcell hbw1).1 _ _ (by first | (simp; done) | (simp; omega) | omega)]; simp [go_sem, World.cell?_alloc_past, *]
  have c1_2_1 : w1.cell? ⟨w.heap.size + 1 + 1 + 1, 1, none⟩ = some (.int .i64 0) := by rw [(bcell hbw1).1 _ _ (by first | (simp; done) | (simp; omega) | omega)]; simp [go_sem, World.cell?_alloc_past, *]
  have c1_2_2 : w1.cell? ⟨w.heap.size + 1 + 1 + 1, 2, none⟩ = some (.int .i64 0) := by rw [(bcell hbw1).1 _ _ (by first | (simp; done) | (simp; omega) | omega)]; simp [go_sem, World.cell?_alloc_past, *]
  have c1_2_3 : w1.cell? ⟨w.heap.size + 1 + 1 + 1, 3, none⟩ = some (.int .i64 0) := by rw [(bcell hbw1).1 _ _ (by first | (simp; done) | (simp; omega) | omega)]; simp [go_sem, World.cell?_alloc_past, *]
  have f1_2 : ∀ j, w1.frozen? ⟨w.heap.size + 1 + 1 + 1, j, none⟩ = false := fun j => by rw [(bcell hbw1).2 _ _ (by first | (simp; done) | (simp; omega) | omega)]; simp [go_sem, *]
  have hB1 : Below w.heap.size w w1 := (by (repeat (first | (with_reducible refine Below.drew ?_) | (with_reducible refine below_drewN ?_ _) | (with_reducible refine Below.alloc ?_ (by first | omega | (simp; done) | (simp; omega) | (simp at *; omega)) _) | (with_reducible refine Below.setCell ?_ (by first | omega | (simp; done) | (simp; omega) | (simp at *; omega)) _) | (with_reducible exact Below.refl _ _) | (with_reducible assumption) | (with_reducible refine Below.trans ?_ (Below.mono (by assumption) (by first | omega | (simp; done) | (simp; omega) | (simp at *; omega)))))))
  have o1_0 : w.heap.size + 1 < w1.heap.size := by omega
  have n1_0 : w1.heap.size ≠ w.heap.size + 1 := by omega
  have t1_0_1 : w.heap.size + 1 < w1.heap.size + 1 := by omega
  have t1_0_2 : w.heap.size + 1 < w1.heap.size + 1 + 1 := by omega
  have t1_0_3 : w.heap.size + 1 < w1.heap.size + 1 + 1 + 1 := by omega
  have t1_0_4 : w.heap.size + 1 < w1.heap.size + 1 + 1 + 1 + 1 := by omega
  have t1_0_5 : w.heap.size + 1 < w1.heap.size + 1 + 1 + 1 + 1 + 1 := by omega
  have o1_1 : w.heap.size + 1 + 1 < w1.heap.size := by omega
  have n1_1 : w1.heap.size ≠ w.heap.size + 1 + 1 := by omega
  have t1_1_1 : w.heap.size + 1 + 1 < w1.heap.size + 1 := by omega
  have t1_1_2 : w.heap.size + 1 + 1 < w1.heap.size + 1 + 1 := by omega
  have t1_1_3 : w.heap.size + 1 + 1 < w1.heap.size + 1 + 1 + 1 := by omega
  have t1_1_4 : w.heap.size + 1 + 1 < w1.heap.size + 1 + 1 + 1 + 1 := by omega
  have t1_1_5 : w.heap.size + 1 + 1 < w1.heap.size + 1 + 1 + 1 + 1 + 1 := by omega
  have o1_2 : w.heap.size + 1 + 1 + 1 < w1.heap.size := by omega
  have n1_2 : w1.heap.size ≠ w.heap.size + 1 + 1 + 1 := by omega
  have t1_2_1 : w.heap.size + 1 + 1 + 1 < w1.heap.size + 1 := by omega
  have t1_2_2 : w.heap.size + 1 + 1 + 1 < w1.heap.size + 1 + 1 := by omega
  have t1_2_3 : w.heap.size + 1 + 1 + 1 < w1.heap.size + 1 + 1 + 1 := by omega
  have t1_2_4 : w.heap.size + 1 + 1 + 1 < w1.heap.size + 1 + 1 + 1 + 1 := by omega
  have t1_2_5 : w.heap.size + 1 + 1 + 1 < w1.heap.size + 1 + 1 + 1 + 1 + 1 := by omega
  have bb1 : w.heap.size ≤ w1.heap.size := by omega
  clear hbw1
  go_wp2
  refine wp_loop_rounds 3 ?_
  rw [rounds_succ]
  go_wp2
  rw [rounds_succ]
  go_wp2
  rw [rounds_succ]
  go_wp2
  refine bodyPost_ret (v := .agg #[.int .i64 B0, .int .i64 B1, .int .i64 B2, .int .i64 B3]) (by simp [results, Try.results36, go_sem, World.cell?_alloc_past, *]) rfl ⟨rfl, ?_⟩
  (repeat (first | (with_reducible refine Below.drew ?_) | (with_reducible refine below_drewN ?_ _) | (with_reducible refine Below.alloc ?_ (by first | omega | (simp; done) | (simp; omega) | (simp at *; omega)) _) | (with_reducible refine Below.setCell ?_ (by first | omega | (simp; done) | (simp; omega) | (simp at *; omega)) _) | (with_reducible exact Below.refl _ _) | (with_reducible assumption) | (with_reducible refine Below.trans ?_ (Below.mono (by assumption) (by first | omega | (simp; done) | (simp; omega) | (simp at *; omega))))))
end Go.Proofs.Ytfaodlcfjhnhbaa
