import Derived.Test.YtjkhjjmmkdfjmaaGTFLeaf
import Derived.Deep.DrawnRows
import Derived.Deep.CutRange
import Derived.Outline
namespace Go.Proofs.Ytjkhjjmmkdfjmaa
open Go.ChangeShapes Go.WideShapes Go.ChangeAt Go.RowKit
set_option linter.unusedVariables false
set_option linter.unusedSimpArgs false
attribute [local go_sem ↓] Go.wp_at_zero Go.wp_at_succ
theorem tdiv_fl (n : Int) {d : Int} (hd : 0 < d) : (n < n.tdiv d * d ∧ n / d = n.tdiv d - 1) ∨ (¬ n < n.tdiv d * d ∧ n / d = n.tdiv d) := by
  have h1 := Int.mul_tdiv_add_tmod n d
  have h2 := Int.mul_ediv_add_emod n d
  have h3 := Int.emod_nonneg n (show d ≠ 0 by omega)
  have h4 := Int.emod_lt_of_pos n hd
  have h5 := Int.tmod_lt_of_pos n hd
  have h6 : -d < n.tmod d := by
    by_cases hp : 0 ≤ n
    · have := Int.tmod_nonneg d hp; omega
    · have h1 := Int.tmod_lt_of_pos (-n) hd
      rw [Int.neg_tmod] at h1
      omega
  rw [Int.mul_comm] at h1
  rw [Int.mul_comm] at h2
  generalize n.tdiv d = Q at *
  generalize n.tmod d = T at *
  generalize n / d = q at *
  generalize n % d = r at *
  have a : q ≤ Q := by
    refine Int.not_lt.1 fun h => ?_
    have := Int.mul_le_mul_of_nonneg_right (show Q + 1 ≤ q by omega) (show 0 ≤ d by omega)
    rw [Int.add_mul] at this
    omega
  have b : Q - 1 ≤ q := by
    refine Int.not_lt.1 fun h => ?_
    have := Int.mul_le_mul_of_nonneg_right (show q ≤ Q - 2 by omega) (show 0 ≤ d by omega)
    rw [Int.sub_mul] at this
    omega
  rcases (show q = Q ∨ q = Q - 1 by omega) with rfl | rfl
  · right; exact ⟨by omega, rfl⟩
  · left; refine ⟨?_, rfl⟩
    rw [Int.sub_mul] at h2
    omega
theorem tdiv_bd (n : Int) {d m : Int} (hd : 0 < d) (h0 : -m ≤ n) (h1 : n ≤ m) : -m ≤ n.tdiv d ∧ n.tdiv d ≤ m ∧ -m ≤ n.tdiv d * d ∧ n.tdiv d * d ≤ m := by
  have key : ∀ k : Int, 0 ≤ k → k ≤ m → 0 ≤ k.tdiv d ∧ k.tdiv d ≤ m ∧ 0 ≤ k.tdiv d * d ∧ k.tdiv d * d ≤ m := fun k k0 k1 => by
    rw [Int.tdiv_eq_ediv_of_nonneg k0]
    have a := Int.ediv_nonneg k0 (show 0 ≤ d by omega)
    have b := Int.ediv_le_self d k0
    have c := Int.ediv_mul_le k (show d ≠ 0 by omega)
    exact ⟨a, by omega, Int.mul_nonneg a (by omega), by omega⟩
  by_cases hn : 0 ≤ n
  · have := key n hn h1; omega
  · have k := key (-n) (by omega) (by omega)
    rw [Int.neg_tdiv, Int.neg_mul] at k
    omega
/-- Rounded up. -/
def upI (n d : Int) : Int := -((-n) / d)
theorem down_any (n d q : Int) (w : World) (d1 : 1 ≤ d) (d2 : d ≤ 1000000000000000000) (n0 : -4000000000000000000 ≤ n) (n1 : n ≤ 4000000000000000000) (hq : Hid (n / d = q)) :
    Calls Try.prog 101 #[.agg #[.int .i64 n, .int .i64 d]] w fun e w' => e = .returned (.int .i64 q) ∧ Below w.heap.size w w' := by
  obtain ⟨b1, b2, b3, b4⟩ := tdiv_bd n (show 0 < d by omega) n0 n1
  have hd0 : ¬ d = 0 := by omega
  have fl := tdiv_fl n (show 0 < d by omega)
  have e1 : IntKind.i64.wrap (n.tdiv d) = n.tdiv d := IntWalk.i64_in _ (by omega)
  have e2 : IntKind.i64.wrap (n.tdiv d * d) = n.tdiv d * d := IntWalk.i64_in _ (by omega)
  have e3 : wrap64 (n.tdiv d * d) = n.tdiv d * d := (IntWalk.i64_left _).symm.trans e2
  have e4 : wrap64 (n.tdiv d) = n.tdiv d := (IntWalk.i64_left _).symm.trans e1
  rw [hq.out] at fl
  generalize ht : n.tdiv d = t at *
  generalize hp : t * d = p at *
  rcases fl with ⟨f1, f2⟩ | ⟨f1, f2⟩
  · have f3 : decide (n < p) = true := by simpa using f1
    have F2 := Lib.hid f2
    clear f2 hq
    go_enter Try.func101, Try.ntmps101
    go_wp2
    go_ret
    exact ⟨ret_int F2.out.symm, belA⟩
  · have f3 : decide (n < p) = false := by simpa using f1
    have F2 := Lib.hid f2
    clear f2 hq
    go_enter Try.func101, Try.ntmps101
    go_wp2
    go_ret
    exact ⟨ret_int F2.out.symm, belA⟩
theorem up_any (n d q : Int) (w : World) (d1 : 1 ≤ d) (d2 : d ≤ 1000000000000000000) (n0 : -4000000000000000000 ≤ n) (n1 : n ≤ 4000000000000000000) (hq : Hid (upI n d = q)) :
    Calls Try.prog 102 #[.agg #[.int .i64 n, .int .i64 d]] w fun e w' => e = .returned (.int .i64 q) ∧ Below w.heap.size w w' := by
  obtain ⟨u, hu⟩ : ∃ z, Hid ((-n) / d = z) := ⟨_, Lib.hid rfl⟩
  have b : -4000000000000000000 ≤ u ∧ u ≤ 4000000000000000000 := by
    rw [← hu.out]
    rcases tdiv_fl (-n) (show 0 < d by omega) with ⟨g1, g2⟩ | ⟨g1, g2⟩
    · have c := tdiv_bd (-n) (show 0 < d by omega) (m := 4000000000000000000) (by omega) (by omega)
      by_cases hn : 0 ≤ -n
      · have := Int.ediv_nonneg hn (show 0 ≤ d by omega); omega
      · have a1 := Int.mul_ediv_add_emod (-n) d
        have a2 := Int.emod_lt_of_pos (-n) (show 0 < d by omega)
        have a3 : n ≤ 4000000000000000000 := n1
        have a4 : -4000000000000000000 ≤ (-n) / d := by
          refine (Int.le_ediv_iff_mul_le (show 0 < d by omega)).2 ?_
          have := Int.mul_le_mul_of_nonneg_left d1 (show (0 : Int) ≤ 4000000000000000000 by omega)
          omega
        omega
    · have c := tdiv_bd (-n) (show 0 < d by omega) (m := 4000000000000000000) (by omega) (by omega); omega
  obtain ⟨b0, b1⟩ := b
  have e1 : IntKind.i64.wrap (-n) = -n := IntWalk.i64_in _ (by omega)
  have e2 : IntKind.i64.wrap (-u) = -u := IntWalk.i64_in _ (by omega)
  have hq2 : Hid (-u = q) := Lib.hid (by rw [← hu.out]; exact hq.out)
  clear hq
  go_enter Try.func102, Try.ntmps102
  go_wp2_with fail
  refine (down_any (-n) d u _ d1 d2 (by omega) (by omega) hu).mono ?_
  rintro e w1 ⟨rfl, hb1⟩
  go_wp2
  go_ret
  exact ⟨ret_int hq2.out, belA⟩
set_option maxHeartbeats 1000000 in
theorem rounded2_any (n d q r : Int) (w : World) (d1 : 1 ≤ d) (d2 : d ≤ 1000000000000000000) (n0 : -4000000000000000000 ≤ n) (n1 : n ≤ 4000000000000000000) (hq : Hid (n / d = q)) (hr : Hid (upI n d = r)) :
    Calls Try.prog 69 #[.agg #[.int .i64 n, .int .i64 d]] w fun e w' => e = .returned (.agg #[.int .i64 q, .int .i64 r]) ∧ Below w.heap.size w w' := by
  go_enter Try.func69, Try.ntmps69
  go_upto_region 1 with (fail)
  refine wp_region_held_drew (S := (fun w' => w'.cell? ⟨w.heap.size, 0, none⟩ = some (.int .i64 n) ∧ w'.cell? ⟨w.heap.size, 1, none⟩ = some (.int .i64 d))) (by kernel_rfl) (by simp [go_sem, cP, *]) (fun hHeld => ?_)
  refine tkA 0 3 rfl ?_
  refine tkA 2 5 rfl ?_
  refine rdA 1 rfl (fun K hK => ?_)
  go_simp
  refine (down_any n d q _ d1 d2 n0 n1 hq).mono ?_
  rintro e xw1 ⟨rfl, hbx1⟩
  have zx1 := hbx1.size
  try simp at zx1
  obtain ⟨x1A0, x1A1, x1B0, x1B1⟩ : xw1.cell? ⟨w.heap.size, 0, none⟩ = some (.int .i64 n) ∧ xw1.cell? ⟨w.heap.size, 1, none⟩ = some (.int .i64 d) ∧ xw1.cell? ⟨w.heap.size + 1, 0, none⟩ = some (.int .i64 0) ∧ xw1.cell? ⟨w.heap.size + 1, 1, none⟩ = some (.int .i64 0) := by refine ⟨?_, ?_, ?_, ?_⟩ <;> (rw [bc1 hbx1]; simp [go_sem, cP, *])
  have x1f1 : (∀ j, xw1.frozen? ⟨w.heap.size + 1, j, none⟩ = false) := by (intro j; rw [bc2 hbx1]; simp [go_sem, *])
  obtain ⟨x1o0, x1n0, x1o1, x1n1⟩ : w.heap.size < xw1.heap.size ∧ xw1.heap.size ≠ w.heap.size ∧ w.heap.size + 1 < xw1.heap.size ∧ xw1.heap.size ≠ w.heap.size + 1 := by refine ⟨?_, ?_, ?_, ?_⟩ <;> omega
  have hBx1 : Below w.heap.size w xw1 := belA
  clear hbx1 
  go_wp2_with fail
  refine hK.out _ _ (by simp [go_sem, cP, *]) (fun hHeld => ?_)
  clear hK K
  try simp only [Act.put, sA, sB, sC]
  refine rdA 3 rfl (fun K hK => ?_)
  go_simp
  refine (up_any n d r _ d1 d2 n0 n1 hr).mono ?_
  rintro e xw2 ⟨rfl, hbx2⟩
  have zx2 := hbx2.size
  try simp at zx2
  obtain ⟨x2A0, x2A1, x2B0, x2B1⟩ : xw2.cell? ⟨w.heap.size, 0, none⟩ = some (.int .i64 n) ∧ xw2.cell? ⟨w.heap.size, 1, none⟩ = some (.int .i64 d) ∧ xw2.cell? ⟨w.heap.size + 1, 0, none⟩ = some (.int .i64 0) ∧ xw2.cell? ⟨w.heap.size + 1, 1, none⟩ = some (.int .i64 0) := by refine ⟨?_, ?_, ?_, ?_⟩ <;> (rw [bc1 hbx2]; simp [go_sem, cP, *])
  have x2f1 : (∀ j, xw2.frozen? ⟨w.heap.size + 1, j, none⟩ = false) := by (intro j; rw [bc2 hbx2]; simp [go_sem, *])
  obtain ⟨x2o0, x2n0, x2o1, x2n1⟩ : w.heap.size < xw2.heap.size ∧ xw2.heap.size ≠ w.heap.size ∧ w.heap.size + 1 < xw2.heap.size ∧ xw2.heap.size ≠ w.heap.size + 1 := by refine ⟨?_, ?_, ?_, ?_⟩ <;> omega
  have hBx2 : Below w.heap.size w xw2 := belA
  clear hbx2 x1A0 x1A1 x1B0 x1B1 x1f1 x1o0 x1n0 x1o1 x1n1 hBx1
  go_wp2_with fail
  refine hK.out _ _ (by simp [go_sem, cP, *]) (fun hHeld => ?_)
  clear hK K
  try simp only [Act.put, sA, sB, sC]
  refine tkA 4 7 rfl ?_
  refine rdA 5 rfl (fun K hK => ?_)
  go_simp
  go_wp2_with fail
  refine hK.out _ _ (by simp [go_sem, cP, *]) (fun hHeld => ?_)
  clear hK K
  try simp only [Act.put, sA, sB, sC]
  refine wpAnyH_done (by kernel_rfl) ?_ _
  go_wp2
  refine bodyPost_ret (v := .agg #[.int .i64 q, .int .i64 r]) (by simp [results, Try.results69, go_sem, *]) rfl ⟨rfl, ?_⟩
  exact belA
theorem rest_any (n d q r : Int) (w : World) (d1 : 1 ≤ d) (d2 : d ≤ 1000000000000000000) (n0 : 0 ≤ n) (n1 : n ≤ 4000000000000000000) (hq : Hid (n / d = q)) (hr : Hid (n % d = r)) :
    Calls Try.prog 131 #[.agg #[.int .i64 n, .int .i64 d]] w fun e w' => e = .returned (.int .i64 r) ∧ Below w.heap.size w w' := by
  have a1 := Int.mul_ediv_add_emod n d
  have a2 := Int.emod_nonneg n (show d ≠ 0 by omega)
  have a3 := Int.emod_lt_of_pos n (show 0 < d by omega)
  have a4 := Int.ediv_mul_le n (show d ≠ 0 by omega)
  have a5 := Int.mul_nonneg (Int.ediv_nonneg n0 (show 0 ≤ d by omega)) (show 0 ≤ d by omega)
  rw [Int.mul_comm] at a1
  obtain ⟨p, hp⟩ : ∃ z, Hid (q * d = z) := ⟨_, Lib.hid rfl⟩
  rw [hq.out, hp.out] at a1 a4 a5
  rw [hr.out] at a1 a2 a3
  have e1 : IntKind.i64.wrap (q * d) = p := by rw [hp.out]; exact IntWalk.i64_in _ (by omega)
  have e2 : IntKind.i64.wrap (n - p) = n - p := IntWalk.i64_in _ (by omega)
  have HA : Hid (n - p = r) := Lib.hid (by omega)
  clear a1 a2 a3 a4 a5
  go_enter Try.func131, Try.ntmps131
  go_upto_region 1 with (fail)
  refine wp_region_held_drew (S := (fun w' => w'.cell? ⟨w.heap.size, 0, none⟩ = some (.int .i64 n) ∧ w'.cell? ⟨w.heap.size, 1, none⟩ = some (.int .i64 d))) (by kernel_rfl) (by simp [go_sem, cP, *]) (fun hHeld => ?_)
  refine tkA 0 3 rfl ?_
  refine tkA 1 4 rfl ?_
  refine tkA 2 5 rfl ?_
  refine tkA 4 7 rfl ?_
  refine tkA 5 8 rfl ?_
  refine rdA 3 rfl (fun K hK => ?_)
  go_simp
  refine (down_any n d q _ d1 d2 (by omega) n1 hq).mono ?_
  rintro e xw1 ⟨rfl, hbx1⟩
  have zx1 := hbx1.size
  try simp at zx1
  obtain ⟨x1A0, x1A1⟩ : xw1.cell? ⟨w.heap.size, 0, none⟩ = some (.int .i64 n) ∧ xw1.cell? ⟨w.heap.size, 1, none⟩ = some (.int .i64 d) := by refine ⟨?_, ?_⟩ <;> (rw [bc1 hbx1]; simp [go_sem, cP, *])
  obtain ⟨x1o0, x1n0⟩ : w.heap.size < xw1.heap.size ∧ xw1.heap.size ≠ w.heap.size := by refine ⟨?_, ?_⟩ <;> omega
  have hBx1 : Below w.heap.size w xw1 := belA
  clear hbx1 
  go_wp2_with fail
  refine hK.out _ _ (by simp [go_sem, cP, *]) (fun hHeld => ?_)
  clear hK K
  try simp only [Act.put, sA, sB, sC]
  refine tkA 6 9 rfl ?_
  refine tkA 7 10 rfl ?_
  refine tkA 8 2 rfl ?_
  refine wpAnyH_done (by kernel_rfl) ?_ _
  go_wp2
  go_ret
  exact ⟨ret_int HA.out, belA⟩
theorem isNaN_any (n : Int) (w : World) : Calls Try.prog 136 #[.int .i64 n] w fun e w' => e = .returned (.bool false) ∧ w = w' := by
  go_enter Try.func136, Try.ntmps136
  go_wp2
  go_ret
  exact ⟨rfl, rfl⟩
/-- -1, 0 or 1 as a number is less than, equal to, or greater than another one. -/
def cmpI (a b : Int) : Int := if a < b then -1 else if b < a then 1 else 0
theorem Compare_any (a b c : Int) (w : World) (hc : Hid (cmpI a b = c)) : Calls Try.prog 130 #[.int .i64 a, .int .i64 b] w fun e w' => e = .returned (.int .i64 c) ∧ w = w' := by
  have hC := hc.out
  unfold cmpI at hC
  by_cases h1 : a < b
  · rw [if_pos h1] at hC
    subst hC
    clear hc
    go_enter Try.func130, Try.ntmps130
    go_wp2_with ((go_at_call 136; ((with_reducible refine (isNaN_any _ _).mono ?_)); rintro e w' ⟨rfl, rfl⟩))
    go_ret
    exact ⟨rfl, rfl⟩
  · rw [if_neg h1] at hC
    by_cases h2 : b < a
    · rw [if_pos h2] at hC
      subst hC
      clear hc
      go_enter Try.func130, Try.ntmps130
      go_wp2_with ((go_at_call 136; ((with_reducible refine (isNaN_any _ _).mono ?_)); rintro e w' ⟨rfl, rfl⟩))
      go_ret
      exact ⟨rfl, rfl⟩
    · rw [if_neg h2] at hC
      subst hC
      clear hc
      go_enter Try.func130, Try.ntmps130
      go_wp2_with ((go_at_call 136; ((with_reducible refine (isNaN_any _ _).mono ?_)); rintro e w' ⟨rfl, rfl⟩))
      go_ret
      exact ⟨rfl, rfl⟩
theorem Or2_any (a b c : Int) (k : Nat) (w : World) (c0 : w.cell? ⟨k, 0, none⟩ = some (.int .i64 a)) (c1 : w.cell? ⟨k, 1, none⟩ = some (.int .i64 b)) (hc : Hid ((if a = 0 then b else a) = c)) : Calls Try.prog 129 #[.slice (some ⟨k, 0, none⟩) 2 2] w fun e w' => e = .returned (.int .i64 c) ∧ w = w' := by
  have hC := hc.out
  by_cases h1 : a = 0
  · rw [if_pos h1] at hC
    subst hC
    subst h1
    by_cases h2 : b = 0
    · subst h2
      clear hc
      go_enter Try.func129, Try.ntmps129
      go_wp2
      refine wp_loop_rounds 3 ?_
      rw [rounds_succ]
      go_wp2
      rw [rounds_succ]
      go_wp2
      rw [rounds_succ]
      go_wp2
      go_ret
      exact ⟨rfl, rfl⟩
    · have h3 : (b != 0) = true := by simpa using h2
      have h4 : (b == 0) = false := by simpa using h2
      clear hc
      go_enter Try.func129, Try.ntmps129
      go_wp2
      refine wp_loop_rounds 2 ?_
      rw [rounds_succ]
      go_wp2
      rw [rounds_succ]
      go_wp2
      go_ret
      exact ⟨rfl, rfl⟩
  · rw [if_neg h1] at hC
    subst hC
    have h3 : (a != 0) = true := by simpa using h1
    have h4 : (a == 0) = false := by simpa using h1
    clear hc
    go_enter Try.func129, Try.ntmps129
    go_wp2
    refine wp_loop_rounds 1 ?_
    rw [rounds_succ]
    go_wp2
    go_ret
    exact ⟨rfl, rfl⟩
/-- Two quotients compared: first rounded down, then by what is left. -/
def ratI (n d m e : Int) : Int := if cmpI (n / d) (m / e) = 0 then cmpI (n % d * e) (m % e * d) else cmpI (n / d) (m / e)
set_option maxHeartbeats 2000000 in
set_option maxRecDepth 100000 in
theorem compare_any (n d m e c : Int) (w : World) (d1 : 1 ≤ d) (d2 : d ≤ 1000000000) (e1 : 1 ≤ e) (e2 : e ≤ 1000000000) (n0 : 0 ≤ n) (n1 : n ≤ 4000000000000000000) (m0 : 0 ≤ m) (m1 : m ≤ 4000000000000000000) (hc : Hid (ratI n d m e = c)) :
    Calls Try.prog 120 #[.agg #[.int .i64 n, .int .i64 d], .agg #[.int .i64 m, .int .i64 e]] w fun en w' => en = .returned (.int .i64 c) ∧ Below w.heap.size w w' := by
  obtain ⟨q, hq⟩ : ∃ z, Hid (n / d = z) := ⟨_, Lib.hid rfl⟩
  obtain ⟨r, hr⟩ : ∃ z, Hid (n % d = z) := ⟨_, Lib.hid rfl⟩
  obtain ⟨s, hs⟩ : ∃ z, Hid (m / e = z) := ⟨_, Lib.hid rfl⟩
  obtain ⟨t, ht⟩ : ∃ z, Hid (m % e = z) := ⟨_, Lib.hid rfl⟩
  obtain ⟨u, hu⟩ : ∃ z, Hid (r * e = z) := ⟨_, Lib.hid rfl⟩
  obtain ⟨v, hv⟩ : ∃ z, Hid (t * d = z) := ⟨_, Lib.hid rfl⟩
  obtain ⟨x, hx⟩ : ∃ z, Hid (cmpI q s = z) := ⟨_, Lib.hid rfl⟩
  obtain ⟨y, hy⟩ : ∃ z, Hid (cmpI u v = z) := ⟨_, Lib.hid rfl⟩
  have hz : Hid ((if x = 0 then y else x) = c) := Lib.hid (by rw [← hc.out]; unfold ratI; rw [hq.out, hs.out, hr.out, ht.out, hx.out, hu.out, hv.out, hy.out])
  have r0 : 0 ≤ r ∧ r < d := by rw [← hr.out]; exact ⟨Int.emod_nonneg _ (by omega), Int.emod_lt_of_pos _ (by omega)⟩
  have t0 : 0 ≤ t ∧ t < e := by rw [← ht.out]; exact ⟨Int.emod_nonneg _ (by omega), Int.emod_lt_of_pos _ (by omega)⟩
  have u0 : 0 ≤ r * e ∧ r * e ≤ 1000000000000000000 := ⟨Int.mul_nonneg r0.1 (by omega), Int.le_trans (Int.mul_le_mul (show r ≤ 1000000000 by omega) e2 (by omega) (by omega)) (by omega)⟩
  have v0 : 0 ≤ t * d ∧ t * d ≤ 1000000000000000000 := ⟨Int.mul_nonneg t0.1 (by omega), Int.le_trans (Int.mul_le_mul (show t ≤ 1000000000 by omega) d2 (by omega) (by omega)) (by omega)⟩
  have w1 : IntKind.i64.wrap (r * e) = u := by rw [hu.out]; exact IntWalk.i64_in _ (by rw [← hu.out]; omega)
  have w2 : IntKind.i64.wrap (t * d) = v := by rw [hv.out]; exact IntWalk.i64_in _ (by rw [← hv.out]; omega)
  clear r0 t0 u0 v0 hc hu hv
  go_enter Try.func120, Try.ntmps120
  go_upto_region 1 with (fail)
  refine wp_region_held_drew (S := (fun w' => w'.cell? ⟨w.heap.size, 0, none⟩ = some (.int .i64 n) ∧ w'.cell? ⟨w.heap.size, 1, none⟩ = some (.int .i64 d) ∧ w'.cell? ⟨w.heap.size + 1, 0, none⟩ = some (.int .i64 m) ∧ w'.cell? ⟨w.heap.size + 1, 1, none⟩ = some (.int .i64 e))) (by kernel_rfl) (by simp [go_sem, cP, *]) (fun hHeld => ?_)
  refine tkA 0 5 rfl ?_
  refine tkA 2 7 rfl ?_
  refine tkA 5 10 rfl ?_
  refine tkA 7 12 rfl ?_
  refine tkA 8 13 rfl ?_
  refine tkA 10 15 rfl ?_
  refine tkA 12 17 rfl ?_
  refine tkA 13 18 rfl ?_
  refine rdA 1 rfl (fun K hK => ?_)
  go_simp
  refine (down_any n d q _ d1 (by omega) (by omega) n1 hq).mono ?_
  rintro en xw1 ⟨rfl, hbx1⟩
  have zx1 := hbx1.size
  try simp at zx1
  obtain ⟨x1A0, x1A1, x1B0, x1B1⟩ : xw1.cell? ⟨w.heap.size, 0, none⟩ = some (.int .i64 n) ∧ xw1.cell? ⟨w.heap.size, 1, none⟩ = some (.int .i64 d) ∧ xw1.cell? ⟨w.heap.size + 1, 0, none⟩ = some (.int .i64 m) ∧ xw1.cell? ⟨w.heap.size + 1, 1, none⟩ = some (.int .i64 e) := by refine ⟨?_, ?_, ?_, ?_⟩ <;> (rw [bc1 hbx1]; simp [go_sem, cP, *])
  obtain ⟨x1o0, x1n0, x1o1, x1n1⟩ : w.heap.size < xw1.heap.size ∧ xw1.heap.size ≠ w.heap.size ∧ w.heap.size + 1 < xw1.heap.size ∧ xw1.heap.size ≠ w.heap.size + 1 := by refine ⟨?_, ?_, ?_, ?_⟩ <;> omega
  have hBx1 : Below w.heap.size w xw1 := belA
  clear hbx1 
  go_wp2_with fail
  refine hK.out _ _ (by simp [go_sem, cP, *]) (fun hHeld => ?_)
  clear hK K
  try simp only [Act.put, sA, sB, sC]
  refine rdA 3 rfl (fun K hK => ?_)
  go_simp
  refine (down_any m e s _ e1 (by omega) (by omega) m1 hs).mono ?_
  rintro en xw2 ⟨rfl, hbx2⟩
  have zx2 := hbx2.size
  try simp at zx2
  obtain ⟨x2A0, x2A1, x2B0, x2B1⟩ : xw2.cell? ⟨w.heap.size, 0, none⟩ = some (.int .i64 n) ∧ xw2.cell? ⟨w.heap.size, 1, none⟩ = some (.int .i64 d) ∧ xw2.cell? ⟨w.heap.size + 1, 0, none⟩ = some (.int .i64 m) ∧ xw2.cell? ⟨w.heap.size + 1, 1, none⟩ = some (.int .i64 e) := by refine ⟨?_, ?_, ?_, ?_⟩ <;> (rw [bc1 hbx2]; simp [go_sem, cP, *])
  obtain ⟨x2o0, x2n0, x2o1, x2n1⟩ : w.heap.size < xw2.heap.size ∧ xw2.heap.size ≠ w.heap.size ∧ w.heap.size + 1 < xw2.heap.size ∧ xw2.heap.size ≠ w.heap.size + 1 := by refine ⟨?_, ?_, ?_, ?_⟩ <;> omega
  have hBx2 : Below w.heap.size w xw2 := belA
  clear hbx2 x1A0 x1A1 x1B0 x1B1 x1o0 x1n0 x1o1 x1n1 hBx1
  go_wp2_with fail
  refine hK.out _ _ (by simp [go_sem, cP, *]) (fun hHeld => ?_)
  clear hK K
  try simp only [Act.put, sA, sB, sC]
  refine rdA 4 rfl (fun K hK => ?_)
  go_simp
  refine (Compare_any q s x _ hx).mono ?_
  rintro en wq ⟨rfl, rfl⟩
  go_wp2_with fail
  refine hK.out _ _ (by simp [go_sem, cP, *]) (fun hHeld => ?_)
  clear hK K
  try simp only [Act.put, sA, sB, sC]
  refine rdA 6 rfl (fun K hK => ?_)
  go_simp
  refine (rest_any n d q r _ d1 (by omega) n0 n1 hq hr).mono ?_
  rintro en xw3 ⟨rfl, hbx3⟩
  have zx3 := hbx3.size
  try simp at zx3
  obtain ⟨x3A0, x3A1, x3B0, x3B1⟩ : xw3.cell? ⟨w.heap.size, 0, none⟩ = some (.int .i64 n) ∧ xw3.cell? ⟨w.heap.size, 1, none⟩ = some (.int .i64 d) ∧ xw3.cell? ⟨w.heap.size + 1, 0, none⟩ = some (.int .i64 m) ∧ xw3.cell? ⟨w.heap.size + 1, 1, none⟩ = some (.int .i64 e) := by refine ⟨?_, ?_, ?_, ?_⟩ <;> (rw [bc1 hbx3]; simp [go_sem, cP, *])
  obtain ⟨x3o0, x3n0, x3o1, x3n1⟩ : w.heap.size < xw3.heap.size ∧ xw3.heap.size ≠ w.heap.size ∧ w.heap.size + 1 < xw3.heap.size ∧ xw3.heap.size ≠ w.heap.size + 1 := by refine ⟨?_, ?_, ?_, ?_⟩ <;> omega
  have hBx3 : Below w.heap.size w xw3 := belA
  clear hbx3 x2A0 x2A1 x2B0 x2B1 x2o0 x2n0 x2o1 x2n1 hBx2
  go_wp2_with fail
  refine hK.out _ _ (by simp [go_sem, cP, *]) (fun hHeld => ?_)
  clear hK K
  try simp only [Act.put, sA, sB, sC]
  refine tkA 9 14 rfl ?_
  refine rdA 11 rfl (fun K hK => ?_)
  go_simp
  refine (rest_any m e s t _ e1 (by omega) m0 m1 hs ht).mono ?_
  rintro en xw4 ⟨rfl, hbx4⟩
  have zx4 := hbx4.size
  try simp at zx4
  obtain ⟨x4A0, x4A1, x4B0, x4B1⟩ : xw4.cell? ⟨w.heap.size, 0, none⟩ = some (.int .i64 n) ∧ xw4.cell? ⟨w.heap.size, 1, none⟩ = some (.int .i64 d) ∧ xw4.cell? ⟨w.heap.size + 1, 0, none⟩ = some (.int .i64 m) ∧ xw4.cell? ⟨w.heap.size + 1, 1, none⟩ = some (.int .i64 e) := by refine ⟨?_, ?_, ?_, ?_⟩ <;> (rw [bc1 hbx4]; simp [go_sem, cP, *])
  obtain ⟨x4o0, x4n0, x4o1, x4n1⟩ : w.heap.size < xw4.heap.size ∧ xw4.heap.size ≠ w.heap.size ∧ w.heap.size + 1 < xw4.heap.size ∧ xw4.heap.size ≠ w.heap.size + 1 := by refine ⟨?_, ?_, ?_, ?_⟩ <;> omega
  have hBx4 : Below w.heap.size w xw4 := belA
  clear hbx4 x3A0 x3A1 x3B0 x3B1 x3o0 x3n0 x3o1 x3n1 hBx3
  go_wp2_with fail
  refine hK.out _ _ (by simp [go_sem, cP, *]) (fun hHeld => ?_)
  clear hK K
  try simp only [Act.put, sA, sB, sC]
  refine tkA 14 19 rfl ?_
  refine rdA 15 rfl (fun K hK => ?_)
  go_simp
  refine (Compare_any u v y _ hy).mono ?_
  rintro en wq ⟨rfl, rfl⟩
  go_wp2_with fail
  refine hK.out _ _ (by simp [go_sem, cP, *]) (fun hHeld => ?_)
  clear hK K
  try simp only [Act.put, sA, sB, sC]
  refine rdA 16 rfl (fun K hK => ?_)
  go_simp
  go_wp2_with fail
  refine hK.out _ _ (by simp [go_sem, cP, *]) (fun hHeld => ?_)
  clear hK K
  try simp only [Act.put, sA, sB, sC]
  refine rdA 17 rfl (fun K hK => ?_)
  go_simp
  refine (Or2_any x y c _ _ (by simp [go_sem]) (by simp [go_sem]) hz).mono ?_
  rintro en wq ⟨rfl, rfl⟩
  go_wp2_with fail
  refine hK.out _ _ (by simp [go_sem, cP, *]) (fun hHeld => ?_)
  clear hK K
  try simp only [Act.put, sA, sB, sC]
  refine tkA 18 4 rfl ?_
  refine wpAnyH_done (by kernel_rfl) ?_ _
  go_wp2
  go_ret
  exact ⟨rfl, belA⟩
end Go.Proofs.Ytjkhjjmmkdfjmaa
