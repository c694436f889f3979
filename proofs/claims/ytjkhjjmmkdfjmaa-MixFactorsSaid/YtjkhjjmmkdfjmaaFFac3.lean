/- What mix.FactorAt and mix.RealAmount return, for every table. -/
import Derived.Test.YtjkhjjmmkdfjmaaFFac2
import Derived.Test.YtjkhjjmmkdfjmaaFUp
import Derived.Deep.CutBlock
import Derived.Outline
namespace Go.Proofs.Ytjkhjjmmkdfjmaa
open Go.ChangeShapes Go.WideShapes Go.ChangeAt Go.RowKit
set_option linter.unusedVariables false
set_option linter.unusedSimpArgs false
attribute [local go_sem ↓] Go.wp_at_zero Go.wp_at_succ
/-- The error of a pressure in a table; the factor there, or nothing. -/
def faE (L : List Fc) (x : Int) : Int := if ctE L = 0 then rngE x (fcG L 0).p (fcG L (L.length - 1)).p else ctE L
def faL (L : List Fc) (x : Int) : Int := if faE L x = 0 then facL L x else 0
def faU (L : List Fc) (x : Int) : Int := if faE L x = 0 then facU L x else 0
theorem ctE_ok {L : List Fc} (h : ctE L = 0) : 0 < L.length ∧ L.length ≤ 20 ∧ facE (-1) L = 0 := by
  unfold ctE at h
  by_cases h0 : L.length = 0
  · rw [if_pos h0] at h; omega
  · rw [if_neg h0] at h
    by_cases h1 : 20 < L.length
    · rw [if_pos h1] at h; omega
    · rw [if_neg h1] at h; exact ⟨by omega, by omega, h⟩
theorem wavg {p q u v : Int} {lo hi : Int} (l0 : 0 ≤ lo) (hp : lo ≤ p ∧ p ≤ hi) (hq : lo ≤ q ∧ q ≤ hi) (hu : 0 ≤ u) (hv : 0 ≤ v) : lo * (u + v) ≤ p * u + q * v ∧ p * u + q * v ≤ hi * (u + v) := by
  have a := Int.mul_le_mul_of_nonneg_right hp.1 hu
  have b := Int.mul_le_mul_of_nonneg_right hp.2 hu
  have c := Int.mul_le_mul_of_nonneg_right hq.1 hv
  have d := Int.mul_le_mul_of_nonneg_right hq.2 hv
  rw [Int.mul_add, Int.mul_add]
  omega
theorem mid_ok {a b : Fc} {x : Int} (ha : 500 ≤ a.l ∧ a.l ≤ a.u ∧ a.u ≤ 2000) (hb : 500 ≤ b.l ∧ b.l ≤ b.u ∧ b.u ≤ 2000) (hx : a.p ≤ x ∧ x ≤ b.p) (hab : a.p < b.p) : (500 ≤ midL a b x ∧ midL a b x ≤ 2000) ∧ (500 ≤ midU a b x ∧ midU a b x ≤ 2000) := by
  have e : b.p - x + (x - a.p) = b.p - a.p := by omega
  have w1 := wavg (lo := 500) (hi := 2000) (p := a.l) (q := b.l) (u := b.p - x) (v := x - a.p) (by omega) ⟨ha.1, by omega⟩ ⟨hb.1, by omega⟩ (by omega) (by omega)
  have w2 := wavg (lo := 500) (hi := 2000) (p := a.u) (q := b.u) (u := b.p - x) (v := x - a.p) (by omega) ⟨by omega, ha.2.2⟩ ⟨by omega, hb.2.2⟩ (by omega) (by omega)
  rw [e] at w1 w2
  have d0 : 0 < b.p - a.p := by omega
  have n2 : 0 ≤ a.u * (b.p - x) + b.u * (x - a.p) := by have := w2.1; omega
  refine ⟨⟨?_, ?_⟩, ?_, ?_⟩
  · exact (Int.le_ediv_iff_mul_le d0).2 w1.1
  · have := Int.ediv_le_ediv d0 w1.2
    rw [Int.mul_ediv_cancel _ (by omega)] at this
    exact this
  · unfold midU
    rw [up_nn n2 d0]
    refine (Int.le_ediv_iff_mul_le d0).2 ?_
    omega
  · unfold midU
    rw [up_nn n2 d0]
    refine Int.le_of_lt_add_one ((Int.ediv_lt_iff_lt_mul d0).2 ?_)
    have : (2000 + 1) * (b.p - a.p) = 2000 * (b.p - a.p) + (b.p - a.p) := by rw [Int.add_mul]; omega
    omega
/-- Of a pressure in a right table: its place. -/
theorem fix_in {L : List Fc} {x : Int} (h : ctE L = 0) (h0 : (fcG L 0).p ≤ x) (h9 : x ≤ (fcG L (L.length - 1)).p) : ∃ hl : fix x L < L.length, ((L[fix x L]).p = x ∨ 0 < fix x L ∧ (L[fix x L - 1]'(by omega)).p < x ∧ x < (L[fix x L]).p) := by
  obtain ⟨l0, l1, hf⟩ := ctE_ok h
  rw [fcG_at (by omega)] at h0 h9
  have hl : fix x L < L.length := by have := fix_le (x := x) (L := L) (k := L.length - 1) (by omega) h9; omega
  refine ⟨hl, ?_⟩
  have h2 := fix_at hl
  by_cases he : (L[fix x L]).p = x
  · exact Or.inl he
  · right
    have hp : 0 < fix x L := by
      refine Nat.pos_of_ne_zero fun hz => ?_
      simp only [hz] at h2 he
      omega
    exact ⟨hp, fix_below _ (by omega) (by omega), by omega⟩
theorem fac_ok {L : List Fc} {x : Int} (h : faE L x = 0) : (500 ≤ facL L x ∧ facL L x ≤ 2000) ∧ (500 ≤ facU L x ∧ facU L x ≤ 2000) ∧ 0 ≤ x ∧ x ≤ 400000 := by
  unfold faE at h
  by_cases hc : ctE L = 0
  · rw [if_pos hc] at h
    have hi : (fcG L 0).p ≤ x ∧ x ≤ (fcG L (L.length - 1)).p := by
      rcases inB_cases x (fcG L 0).p (fcG L (L.length - 1)).p with h1 | h1
      · exact inB_iff.1 h1
      · rw [rngE_f h1] at h; omega
    obtain ⟨hl, hw⟩ := fix_in hc hi.1 hi.2
    obtain ⟨l0, l1, hf⟩ := ctE_ok hc
    obtain ⟨q1, q2, q3, q4⟩ := facE_ok hf (fix x L) hl
    have b0 := (facE_ok hf 0 l0).1
    have b9 := (facE_ok hf (L.length - 1) (by omega)).1
    rw [fcG_at (by omega), fcG_at (by omega)] at hi
    unfold facL facU
    rw [fcG_at hl]
    rcases hw with hw | ⟨hp, hw1, hw2⟩
    · rw [if_pos hw, if_pos hw]
      omega
    · rw [if_neg (by omega), if_neg (by omega), fcG_at (by omega)]
      obtain ⟨r1, r2, r3, r4⟩ := facE_ok hf (fix x L - 1) (by omega)
      have := mid_ok r2 q2 (x := x) ⟨by omega, by omega⟩ (by omega)
      exact ⟨this.1, this.2, by omega, by omega⟩
  · rw [if_neg hc] at h; exact absurd h hc
set_option maxRecDepth 100000 in
theorem FactorAt_any (L : List Fc) (A : Option Addr) (cap : Nat) (x E l u : Int) (w : World) (hl : L.length ≤ 1000000) (hL : SlRows fcV 3 w A L) (hE : Hid (faE L x = E)) (h1 : Hid (faL L x = l)) (h2 : Hid (faU L x = u)) :
    Calls Try.prog 44 #[.slice A L.length cap, .int .i64 x] w fun e w' => e = .returned (.tuple #[.agg #[.int .i64 l, .int .i64 u], .int .i64 E]) ∧ Below w.heap.size w w' := by
  have he := hE.out
  have g1 := h1.out
  have g2 := h2.out
  unfold faL at g1
  unfold faU at g2
  rw [he] at g1 g2
  unfold faE at he
  by_cases hz : L.length = 0
  · have hc : ctE L = 10 := by unfold ctE; rw [if_pos hz]
    rw [if_neg (by omega), hc] at he
    subst he
    rw [if_neg (by omega)] at g1 g2
    subst g1 g2
    have HF : Hid (∀ w', Calls Try.prog 48 #[.slice A 0 cap] w' fun e w'' => e = .returned (.int .i64 10) ∧ Below w'.heap.size w' w'') := Lib.hid fun w' => (by have := CheckFactors_any L A cap 10 w' hl (Or.inl (List.eq_nil_of_length_eq_zero hz)) (Lib.hid hc); rw [hz] at this; exact this)
    rw [hz]
    clear hL h1 h2 hE hc hz hl
    go_enter Try.func44, Try.ntmps44
    go_wp2_with fail
    refine (HF.out _).mono ?_
    rintro e w1 ⟨rfl, hb1⟩
    have z := hb1.size
    try simp at z
    obtain ⟨r0, r1⟩ : w1.cell? ⟨w.heap.size + 1, 0, none⟩ = some (.int .i64 0) ∧ w1.cell? ⟨w.heap.size + 1, 1, none⟩ = some (.int .i64 0) := by refine ⟨?_, ?_⟩ <;> (rw [(bcell hb1).1 _ _ (by first | (simp; done) | (simp; omega) | omega)]; simp [go_sem, World.cell?_alloc_past, *])
    have rf : ∀ j, w1.frozen? ⟨w.heap.size + 1, j, none⟩ = false := by intro j; rw [(bcell hb1).2 _ _ (by first | (simp; done) | (simp; omega) | omega)]; simp [go_sem, *]
    have hB : Below w.heap.size w w1 := (by (repeat (first | (with_reducible refine Below.drew ?_) | (with_reducible refine below_drewN ?_ _) | (with_reducible refine Below.alloc ?_ (by first | omega | (simp; done) | (simp; omega) | (simp at *; omega)) _) | (with_reducible refine Below.setCell ?_ (by first | omega | (simp; done) | (simp; omega) | (simp at *; omega)) _) | (with_reducible exact Below.refl _ _) | (with_reducible assumption) | (with_reducible refine Below.trans ?_ (Below.mono (by assumption) (by first | omega | (simp; done) | (simp; omega) | (simp at *; omega)))))))
    clear hb1
    go_wp2
    refine bodyPost_ret (v := .tuple #[.agg #[.int .i64 0, .int .i64 0], .int .i64 10]) (by simp [results, Try.results44, go_sem, *]) rfl ⟨rfl, ?_⟩
    (repeat (first | (with_reducible refine Below.drew ?_) | (with_reducible refine below_drewN ?_ _) | (with_reducible refine Below.alloc ?_ (by first | omega | (simp; done) | (simp; omega) | (simp at *; omega)) _) | (with_reducible refine Below.setCell ?_ (by first | omega | (simp; done) | (simp; omega) | (simp at *; omega)) _) | (with_reducible exact Below.refl _ _) | (with_reducible assumption) | (with_reducible refine Below.trans ?_ (Below.mono (by assumption) (by first | omega | (simp; done) | (simp; omega) | (simp at *; omega))))))
  · obtain ⟨N, hN⟩ : ∃ N, N + 1 = L.length := ⟨L.length - 1, by omega⟩
    rcases hL with rfl | ⟨b, off, rfl, hlt, hL⟩
    · simp at hz
    have HN := Lib.hid hN
    have e9 : L.length - 1 = N := by omega
    rw [← hN]
    rw [e9, fcG_at (show 0 < L.length by omega), fcG_at (show N < L.length by omega)] at he
    by_cases hc : ctE L = 0
    · rw [if_pos hc] at he
      rcases inB_cases x (L[0]'(by omega)).p (L[N]'(by omega)).p with hi | hi
      · have hr := rngE_t hi
        rw [hr] at he
        subst he
        rw [if_pos rfl] at g1 g2
        obtain ⟨i0, i9⟩ := inB_iff.1 hi
        obtain ⟨hl1, hw⟩ := fix_in (x := x) hc (by rw [fcG_at (by omega)]; exact i0) (by rw [e9, fcG_at (by omega)]; exact i9)
        obtain ⟨_, _, hf⟩ := ctE_ok hc
        obtain ⟨q1, q2, q3, q4⟩ := facE_ok hf (fix x L) hl1
        unfold facL at g1
        unfold facU at g2
        rw [fcG_at hl1] at g1 g2
        rcases hw with hw | ⟨hp, hw1, hw2⟩
        · rw [if_pos hw] at g1 g2
          exact FactorAt_hit L b off cap N x w hl hlt hL HN _ _ (Lib.hid rfl) (Lib.hid rfl) (fix x L) (Lib.hid rfl) (by omega) _ _ _ (Lib.hid rfl) (Lib.hid g1) (Lib.hid g2) (Lib.hid hc) (Lib.hid hr) hw
        · obtain ⟨j, hj⟩ : ∃ j, fix x L = j + 1 := ⟨fix x L - 1, by omega⟩
          rw [if_neg (by omega), fcG_at (by omega)] at g1 g2
          unfold midL at g1
          unfold midU at g2
          simp only [hj, Nat.add_sub_cancel] at g1 g2 hw1 hw2 q1 q2
          obtain ⟨r1, r2, r3, r4⟩ := facE_ok hf j (by omega)
          have w1 := wavg (lo := 500) (hi := 2000) (p := (L[j]'(by omega)).l) (q := (L[j + 1]'(by omega)).l) (u := (L[j + 1]'(by omega)).p - x) (v := x - (L[j]'(by omega)).p) (by omega) ⟨by omega, by omega⟩ ⟨by omega, by omega⟩ (by omega) (by omega)
          have w2 := wavg (lo := 500) (hi := 2000) (p := (L[j]'(by omega)).u) (q := (L[j + 1]'(by omega)).u) (u := (L[j + 1]'(by omega)).p - x) (v := x - (L[j]'(by omega)).p) (by omega) ⟨by omega, by omega⟩ ⟨by omega, by omega⟩ (by omega) (by omega)
          exact FactorAt_mid L b off cap N x w hl hlt hL HN _ _ (Lib.hid rfl) (Lib.hid rfl) j (Lib.hid hj) (by omega) _ _ _ _ _ _ _ _ _ _ _ (Lib.hid rfl) (Lib.hid rfl) (Lib.hid rfl) (Lib.hid rfl) (Lib.hid rfl) (Lib.hid rfl) (by omega) (by omega) (by omega) (by omega) (by omega) (by omega) (by omega) (by omega) (by omega) (by omega) (by omega) (by omega) (by omega) (Lib.hid rfl) (Lib.hid rfl) (Lib.hid rfl) (by omega) (by omega) (by omega) (by omega) (by omega) (by omega) (Lib.hid g1) (Lib.hid g2) (Lib.hid hc) (Lib.hid hr) (by simp; omega)
      · have hr := rngE_f hi
        rw [hr] at he
        subst he
        rw [if_neg (by omega)] at g1 g2
        subst g1 g2
        exact FactorAt_far L b off cap N x w hl hlt hL HN _ _ (Lib.hid rfl) (Lib.hid rfl) (Lib.hid hc) (Lib.hid hr)
    · rw [if_neg hc] at he
      subst he
      rw [if_neg hc] at g1 g2
      subst g1 g2
      exact FactorAt_bad L b off cap N x _ w hl hlt hL HN (Lib.hid rfl) (by simpa using hc)
set_option maxHeartbeats 1000000 in
set_option maxRecDepth 100000 in
theorem amountsAt_any (x v l u P q r : Int) (w : World) (hP : Hid (x * v = P)) (P0 : 0 ≤ P) (P1 : P ≤ 400000000000) (l0 : 1 ≤ l) (l1 : l ≤ 2000) (u0 : 1 ≤ u) (u1 : u ≤ 2000) (hq : Hid (P / u = q)) (hr : Hid (upI P l = r)) :
    Calls Try.prog 85 #[.int .i64 x, .int .i64 v, .agg #[.int .i64 l, .int .i64 u]] w fun e w' => e = .returned (.agg #[.int .i64 q, .int .i64 r]) ∧ Below w.heap.size w w' := by
  have w1 : IntKind.i64.wrap (x * v) = P := by rw [hP.out]; exact IntWalk.i64_in _ (by omega)
  have w2 : wrap64 (x * v) = P := (IntWalk.i64_left _).symm.trans w1
  go_enter Try.func85, Try.ntmps85
  go_upto_region 1 with (fail)
  refine wp_region_held_drew (S := (fun w' => w'.cell? ⟨w.heap.size, 0, none⟩ = some (.int .i64 l) ∧ w'.cell? ⟨w.heap.size, 1, none⟩ = some (.int .i64 u))) (by kernel_rfl) (by simp [go_sem, World.cell?_alloc_past, *]) (fun hHeld => ?_)
  refine tkH 0 ⟨some 7, _, _, _, _, _⟩ ?_ rfl ?_ (by assumption) ?_
  rotate_left
  · (intro w hSw; (try dsimp only at hSw); go_simp; all_goals with_reducible rfl)
  try simp only [Act.put, sA, sB, sC]
  refine tkH 1 ⟨some 8, _, _, _, _, _⟩ ?_ rfl ?_ (by assumption) ?_
  rotate_left
  · (intro w hSw; (try dsimp only at hSw); go_simp; all_goals with_reducible rfl)
  try simp only [Act.put, sA, sB, sC]
  refine tkH 2 ⟨some 9, _, _, _, _, _⟩ ?_ rfl ?_ (by assumption) ?_
  rotate_left
  · (intro w hSw; (try dsimp only at hSw); go_simp; all_goals with_reducible rfl)
  try simp only [Act.put, sA, sB, sC]
  refine tkH 3 ⟨some 10, _, _, _, _, _⟩ ?_ rfl ?_ (by assumption) ?_
  rotate_left
  · (intro w hSw; (try dsimp only at hSw); go_simp; all_goals with_reducible rfl)
  try simp only [Act.put, sA, sB, sC]
  refine tkH 4 ⟨some 11, _, _, _, _, _⟩ ?_ rfl ?_ (by assumption) ?_
  rotate_left
  · (intro w hSw; (try dsimp only at hSw); go_simp; all_goals with_reducible rfl)
  try simp only [Act.put, sA, sB, sC]
  refine tkH 5 ⟨some 12, _, _, _, _, _⟩ ?_ rfl ?_ (by assumption) ?_
  rotate_left
  · (intro w hSw; (try dsimp only at hSw); go_simp; all_goals with_reducible rfl)
  try simp only [Act.put, sA, sB, sC]
  refine tkH 7 ⟨some 14, _, _, _, _, _⟩ ?_ rfl ?_ (by assumption) ?_
  rotate_left
  · (intro w hSw; (try dsimp only at hSw); go_simp; all_goals with_reducible rfl)
  try simp only [Act.put, sA, sB, sC]
  refine tkH 8 ⟨some 15, _, _, _, _, _⟩ ?_ rfl ?_ (by assumption) ?_
  rotate_left
  · (intro w hSw; (try dsimp only at hSw); go_simp; all_goals with_reducible rfl)
  try simp only [Act.put, sA, sB, sC]
  refine tkH 9 ⟨some 16, _, _, _, _, _⟩ ?_ rfl ?_ (by assumption) ?_
  rotate_left
  · (intro w hSw; (try dsimp only at hSw); go_simp; all_goals with_reducible rfl)
  try simp only [Act.put, sA, sB, sC]
  refine tkH 10 ⟨some 17, _, _, _, _, _⟩ ?_ rfl ?_ (by assumption) ?_
  rotate_left
  · (intro w hSw; (try dsimp only at hSw); go_simp; all_goals with_reducible rfl)
  try simp only [Act.put, sA, sB, sC]
  refine tkH 11 ⟨some 18, _, _, _, _, _⟩ ?_ rfl ?_ (by assumption) ?_
  rotate_left
  · (intro w hSw; (try dsimp only at hSw); go_simp; all_goals with_reducible rfl)
  try simp only [Act.put, sA, sB, sC]
  refine tkH 12 ⟨some 19, _, _, _, _, _⟩ ?_ rfl ?_ (by assumption) ?_
  rotate_left
  · (intro w hSw; (try dsimp only at hSw); go_simp; all_goals with_reducible rfl)
  try simp only [Act.put, sA, sB, sC]
  refine wpAnyH_ready (rs := [6]) (by kernel_rfl) (by simp) ?_
  refine AllReadyH.cons rfl (fun K hK => ?_) AllReadyH.nil
  go_simp
  refine (down_any P u q _ u0 (by omega) (by omega) (by omega) hq).mono ?_
  rintro e xw1 ⟨rfl, hbx1⟩
  have zx1 := hbx1.size
  try simp at zx1
  obtain ⟨x1_0_0, x1_0_1, x1_1_0, x1_1_1⟩ : xw1.cell? ⟨w.heap.size, 0, none⟩ = some (.int .i64 l) ∧ xw1.cell? ⟨w.heap.size, 1, none⟩ = some (.int .i64 u) ∧ xw1.cell? ⟨w.heap.size + 1, 0, none⟩ = some (.int .i64 0) ∧ xw1.cell? ⟨w.heap.size + 1, 1, none⟩ = some (.int .i64 0) := by refine ⟨?_, ?_, ?_, ?_⟩ <;> (rw [(bcell hbx1).1 _ _ (by first | (simp; done) | (simp; omega) | omega)]; simp [go_sem, World.cell?_alloc_past, *])
  have x1f1 : (∀ j, xw1.frozen? ⟨w.heap.size + 1, j, none⟩ = false) := by (intro j; rw [(bcell hbx1).2 _ _ (by first | (simp; done) | (simp; omega) | omega)]; simp [go_sem, *])
  obtain ⟨x1o0, x1n0, x1m0, x1t0_0, x1o1, x1n1, x1m1, x1t1_0⟩ : w.heap.size < xw1.heap.size ∧ xw1.heap.size ≠ w.heap.size ∧ w.heap.size ≠ xw1.heap.size ∧ w.heap.size < xw1.heap.size + 1 ∧ w.heap.size + 1 < xw1.heap.size ∧ xw1.heap.size ≠ w.heap.size + 1 ∧ w.heap.size + 1 ≠ xw1.heap.size ∧ w.heap.size + 1 < xw1.heap.size + 1 := by refine ⟨?_, ?_, ?_, ?_, ?_, ?_, ?_, ?_⟩ <;> omega
  have hBx1 : Below w.heap.size w xw1 := (by (repeat (first | (with_reducible refine Below.drew ?_) | (with_reducible refine below_drewN ?_ _) | (with_reducible refine Below.alloc ?_ (by first | omega | (simp; done) | (simp; omega) | (simp at *; omega)) _) | (with_reducible refine Below.setCell ?_ (by first | omega | (simp; done) | (simp; omega) | (simp at *; omega)) _) | (with_reducible exact Below.refl _ _) | (with_reducible assumption) | (with_reducible refine Below.trans ?_ (Below.mono (by assumption) (by first | omega | (simp; done) | (simp; omega) | (simp at *; omega)))))))
  clear hbx1 
  go_wp2_with fail
  refine hK.out _ _ (by simp [go_sem, World.cell?_alloc_past, *]) (fun hHeld => ?_)
  clear hK K
  try simp only [Act.put, sA, sB, sC]
  refine wpAnyH_ready (rs := [13]) (by kernel_rfl) (by simp) ?_
  refine AllReadyH.cons rfl (fun K hK => ?_) AllReadyH.nil
  go_simp
  refine (up_any P l r _ l0 (by omega) (by omega) (by omega) hr).mono ?_
  rintro e xw2 ⟨rfl, hbx2⟩
  have zx2 := hbx2.size
  try simp at zx2
  obtain ⟨x2_0_0, x2_0_1, x2_1_0, x2_1_1⟩ : xw2.cell? ⟨w.heap.size, 0, none⟩ = some (.int .i64 l) ∧ xw2.cell? ⟨w.heap.size, 1, none⟩ = some (.int .i64 u) ∧ xw2.cell? ⟨w.heap.size + 1, 0, none⟩ = some (.int .i64 0) ∧ xw2.cell? ⟨w.heap.size + 1, 1, none⟩ = some (.int .i64 0) := by refine ⟨?_, ?_, ?_, ?_⟩ <;> (rw [(bcell hbx2).1 _ _ (by first | (simp; done) | (simp; omega) | omega)]; simp [go_sem, World.cell?_alloc_past, *])
  have x2f1 : (∀ j, xw2.frozen? ⟨w.heap.size + 1, j, none⟩ = false) := by (intro j; rw [(bcell hbx2).2 _ _ (by first | (simp; done) | (simp; omega) | omega)]; simp [go_sem, *])
  obtain ⟨x2o0, x2n0, x2m0, x2t0_0, x2o1, x2n1, x2m1, x2t1_0⟩ : w.heap.size < xw2.heap.size ∧ xw2.heap.size ≠ w.heap.size ∧ w.heap.size ≠ xw2.heap.size ∧ w.heap.size < xw2.heap.size + 1 ∧ w.heap.size + 1 < xw2.heap.size ∧ xw2.heap.size ≠ w.heap.size + 1 ∧ w.heap.size + 1 ≠ xw2.heap.size ∧ w.heap.size + 1 < xw2.heap.size + 1 := by refine ⟨?_, ?_, ?_, ?_, ?_, ?_, ?_, ?_⟩ <;> omega
  have hBx2 : Below w.heap.size w xw2 := (by (repeat (first | (with_reducible refine Below.drew ?_) | (with_reducible refine below_drewN ?_ _) | (with_reducible refine Below.alloc ?_ (by first | omega | (simp; done) | (simp; omega) | (simp at *; omega)) _) | (with_reducible refine Below.setCell ?_ (by first | omega | (simp; done) | (simp; omega) | (simp at *; omega)) _) | (with_reducible exact Below.refl _ _) | (with_reducible assumption) | (with_reducible refine Below.trans ?_ (Below.mono (by assumption) (by first | omega | (simp; done) | (simp; omega) | (simp at *; omega)))))))
  clear hbx2 x1_0_0 x1_0_1 x1_1_0 x1_1_1 x1f1 x1o0 x1n0 x1m0 x1t0_0 x1o1 x1n1 x1m1 x1t1_0 hBx1
  go_wp2_with fail
  refine hK.out _ _ (by simp [go_sem, World.cell?_alloc_past, *]) (fun hHeld => ?_)
  clear hK K
  try simp only [Act.put, sA, sB, sC]
  refine tkH 14 ⟨some 21, _, _, _, _, _⟩ ?_ rfl ?_ (by assumption) ?_
  rotate_left
  · (intro w hSw; (try dsimp only at hSw); go_simp; all_goals with_reducible rfl)
  try simp only [Act.put, sA, sB, sC]
  refine wpAnyH_ready (rs := [15]) (by kernel_rfl) (by simp) ?_
  refine AllReadyH.cons rfl (fun K hK => ?_) AllReadyH.nil
  go_simp
  go_wp2_with fail
  refine hK.out _ _ (by simp [go_sem, World.cell?_alloc_past, *]) (fun hHeld => ?_)
  clear hK K
  try simp only [Act.put, sA, sB, sC]
  refine wpAnyH_done (by kernel_rfl) ?_ _
  go_wp2
  refine bodyPost_ret (v := .agg #[.int .i64 q, .int .i64 r]) (by simp [results, Try.results85, go_sem, *]) rfl ⟨rfl, ?_⟩
  (repeat (first | (with_reducible refine Below.drew ?_) | (with_reducible refine below_drewN ?_ _) | (with_reducible refine Below.alloc ?_ (by first | omega | (simp; done) | (simp; omega) | (simp at *; omega)) _) | (with_reducible refine Below.setCell ?_ (by first | omega | (simp; done) | (simp; omega) | (simp at *; omega)) _) | (with_reducible exact Below.refl _ _) | (with_reducible assumption) | (with_reducible refine Below.trans ?_ (Below.mono (by assumption) (by first | omega | (simp; done) | (simp; omega) | (simp at *; omega))))))
set_option maxHeartbeats 4000000 in
set_option maxRecDepth 100000 in
theorem Real_bad (L : List Fc) (A : Option Addr) (cap : Nat) (n : Nat) (x y v E : Int) (w : World) (hn : Hid (n = L.length)) (hl : L.length ≤ 1000000) (hL : SlRows fcV 3 w A L) (hE : Hid (ctE L = E)) (hz : (E != 0) = true) : Calls Try.prog 46 #[.slice A n cap, .agg #[.int .i64 x, .int .i64 y], .int .i64 v] w fun e w' => e = .returned (.tuple #[.agg #[.int .i64 0, .int .i64 0], .int .i64 E]) ∧ Below w.heap.size w w' := by
  have HL := Lib.hid hL
  have HCF : Hid (∀ (E : Int) w', SlRows fcV 3 w' A L → Hid (ctE L = E) → Calls Try.prog 48 #[.slice A n cap] w' fun e w'' => e = .returned (.int .i64 E) ∧ Below w'.heap.size w' w'') := Lib.hid (by rw [hn.out]; exact fun E w' hh hE => CheckFactors_any L A cap E w' hl hh hE)
  have HFA : Hid (∀ (x E l u : Int) w', SlRows fcV 3 w' A L → Hid (faE L x = E) → Hid (faL L x = l) → Hid (faU L x = u) → Calls Try.prog 44 #[.slice A n cap, .int .i64 x] w' fun e w'' => e = .returned (.tuple #[.agg #[.int .i64 l, .int .i64 u], .int .i64 E]) ∧ Below w'.heap.size w' w'') := Lib.hid (by rw [hn.out]; exact fun x E l u w' hh hE h1 h2 => FactorAt_any L A cap x E l u w' hl hh hE h1 h2)
  clear hL hn hl
  go_enter Try.func46, Try.ntmps46
  go_wp2_with fail
  refine (HCF.out E _ (HL.out.below (((Below.refl w.heap.size w).alloc (Nat.le_refl _) _).alloc (by simp) _)) hE).mono ?_
  rintro e xw1 ⟨rfl, hbx1⟩
  have zx1 := hbx1.size
  try simp at zx1
  obtain ⟨x1_0_0, x1_0_1, x1_1_0, x1_1_1⟩ : xw1.cell? ⟨w.heap.size, 0, none⟩ = some (.int .i64 x) ∧ xw1.cell? ⟨w.heap.size, 1, none⟩ = some (.int .i64 y) ∧ xw1.cell? ⟨w.heap.size + 1, 0, none⟩ = some (.int .i64 0) ∧ xw1.cell? ⟨w.heap.size + 1, 1, none⟩ = some (.int .i64 0) := by refine ⟨?_, ?_, ?_, ?_⟩ <;> (rw [(bcell hbx1).1 _ _ (by first | (simp; done) | (simp; omega) | omega)]; simp [go_sem, World.cell?_alloc_past, *])
  have x1f1 : (∀ j, xw1.frozen? ⟨w.heap.size + 1, j, none⟩ = false) := by (intro j; rw [(bcell hbx1).2 _ _ (by first | (simp; done) | (simp; omega) | omega)]; simp [go_sem, *])
  obtain ⟨x1o0, x1n0, x1m0, x1t0_0, x1t0_1, x1o1, x1n1, x1m1, x1t1_0, x1t1_1⟩ : w.heap.size < xw1.heap.size ∧ xw1.heap.size ≠ w.heap.size ∧ w.heap.size ≠ xw1.heap.size ∧ w.heap.size < xw1.heap.size + 1 ∧ w.heap.size < xw1.heap.size + 1 + 1 ∧ w.heap.size + 1 < xw1.heap.size ∧ xw1.heap.size ≠ w.heap.size + 1 ∧ w.heap.size + 1 ≠ xw1.heap.size ∧ w.heap.size + 1 < xw1.heap.size + 1 ∧ w.heap.size + 1 < xw1.heap.size + 1 + 1 := by refine ⟨?_, ?_, ?_, ?_, ?_, ?_, ?_, ?_, ?_, ?_⟩ <;> omega
  have hBx1 : Below w.heap.size w xw1 := (by (repeat (first | (with_reducible refine Below.drew ?_) | (with_reducible refine below_drewN ?_ _) | (with_reducible refine Below.alloc ?_ (by first | omega | (simp; done) | (simp; omega) | (simp at *; omega)) _) | (with_reducible refine Below.setCell ?_ (by first | omega | (simp; done) | (simp; omega) | (simp at *; omega)) _) | (with_reducible exact Below.refl _ _) | (with_reducible assumption) | (with_reducible refine Below.trans ?_ (Below.mono (by assumption) (by first | omega | (simp; done) | (simp; omega) | (simp at *; omega)))))))
  clear hbx1 
  go_wp2
  refine bodyPost_ret (v := .tuple #[.agg #[.int .i64 0, .int .i64 0], .int .i64 E]) (by simp [results, Try.results46, go_sem, World.cell?_alloc_past, *]) rfl ⟨rfl, ?_⟩
  (repeat (first | (with_reducible refine Below.drew ?_) | (with_reducible refine below_drewN ?_ _) | (with_reducible refine Below.alloc ?_ (by first | omega | (simp; done) | (simp; omega) | (simp at *; omega)) _) | (with_reducible refine Below.setCell ?_ (by first | omega | (simp; done) | (simp; omega) | (simp at *; omega)) _) | (with_reducible exact Below.refl _ _) | (with_reducible assumption) | (with_reducible refine Below.trans ?_ (Below.mono (by assumption) (by first | omega | (simp; done) | (simp; omega) | (simp at *; omega))))))
set_option maxHeartbeats 4000000 in
set_option maxRecDepth 100000 in
theorem Real_order (L : List Fc) (A : Option Addr) (cap : Nat) (n : Nat) (x y v : Int) (w : World) (hn : Hid (n = L.length)) (hl : L.length ≤ 1000000) (hL : SlRows fcV 3 w A L) (hE : Hid (ctE L = 0)) (hxy : y < x) : Calls Try.prog 46 #[.slice A n cap, .agg #[.int .i64 x, .int .i64 y], .int .i64 v] w fun e w' => e = .returned (.tuple #[.agg #[.int .i64 0, .int .i64 0], .int .i64 9]) ∧ Below w.heap.size w w' := by
  have HL := Lib.hid hL
  have HCF : Hid (∀ (E : Int) w', SlRows fcV 3 w' A L → Hid (ctE L = E) → Calls Try.prog 48 #[.slice A n cap] w' fun e w'' => e = .returned (.int .i64 E) ∧ Below w'.heap.size w' w'') := Lib.hid (by rw [hn.out]; exact fun E w' hh hE => CheckFactors_any L A cap E w' hl hh hE)
  have HFA : Hid (∀ (x E l u : Int) w', SlRows fcV 3 w' A L → Hid (faE L x = E) → Hid (faL L x = l) → Hid (faU L x = u) → Calls Try.prog 44 #[.slice A n cap, .int .i64 x] w' fun e w'' => e = .returned (.tuple #[.agg #[.int .i64 l, .int .i64 u], .int .i64 E]) ∧ Below w'.heap.size w' w'') := Lib.hid (by rw [hn.out]; exact fun x E l u w' hh hE h1 h2 => FactorAt_any L A cap x E l u w' hl hh hE h1 h2)
  clear hL hn hl
  go_enter Try.func46, Try.ntmps46
  go_wp2_with fail
  refine (HCF.out 0 _ (HL.out.below (((Below.refl w.heap.size w).alloc (Nat.le_refl _) _).alloc (by simp) _)) hE).mono ?_
  rintro e xw1 ⟨rfl, hbx1⟩
  have zx1 := hbx1.size
  try simp at zx1
  obtain ⟨x1_0_0, x1_0_1, x1_1_0, x1_1_1⟩ : xw1.cell? ⟨w.heap.size, 0, none⟩ = some (.int .i64 x) ∧ xw1.cell? ⟨w.heap.size, 1, none⟩ = some (.int .i64 y) ∧ xw1.cell? ⟨w.heap.size + 1, 0, none⟩ = some (.int .i64 0) ∧ xw1.cell? ⟨w.heap.size + 1, 1, none⟩ = some (.int .i64 0) := by refine ⟨?_, ?_, ?_, ?_⟩ <;> (rw [(bcell hbx1).1 _ _ (by first | (simp; done) | (simp; omega) | omega)]; simp [go_sem, World.cell?_alloc_past, *])
  have x1f1 : (∀ j, xw1.frozen? ⟨w.heap.size + 1, j, none⟩ = false) := by (intro j; rw [(bcell hbx1).2 _ _ (by first | (simp; done) | (simp; omega) | omega)]; simp [go_sem, *])
  obtain ⟨x1o0, x1n0, x1m0, x1t0_0, x1t0_1, x1o1, x1n1, x1m1, x1t1_0, x1t1_1⟩ : w.heap.size < xw1.heap.size ∧ xw1.heap.size ≠ w.heap.size ∧ w.heap.size ≠ xw1.heap.size ∧ w.heap.size < xw1.heap.size + 1 ∧ w.heap.size < xw1.heap.size + 1 + 1 ∧ w.heap.size + 1 < xw1.heap.size ∧ xw1.heap.size ≠ w.heap.size + 1 ∧ w.heap.size + 1 ≠ xw1.heap.size ∧ w.heap.size + 1 < xw1.heap.size + 1 ∧ w.heap.size + 1 < xw1.heap.size + 1 + 1 := by refine ⟨?_, ?_, ?_, ?_, ?_, ?_, ?_, ?_, ?_, ?_⟩ <;> omega
  have hBx1 : Below w.heap.size w xw1 := (by (repeat (first | (with_reducible refine Below.drew ?_) | (with_reducible refine below_drewN ?_ _) | (with_reducible refine Below.alloc ?_ (by first | omega | (simp; done) | (simp; omega) | (simp at *; omega)) _) | (with_reducible refine Below.setCell ?_ (by first | omega | (simp; done) | (simp; omega) | (simp at *; omega)) _) | (with_reducible exact Below.refl _ _) | (with_reducible assumption) | (with_reducible refine Below.trans ?_ (Below.mono (by assumption) (by first | omega | (simp; done) | (simp; omega) | (simp at *; omega)))))))
  clear hbx1 
  go_wp2
  refine bodyPost_ret (v := .tuple #[.agg #[.int .i64 0, .int .i64 0], .int .i64 9]) (by simp [results, Try.results46, go_sem, World.cell?_alloc_past, *]) rfl ⟨rfl, ?_⟩
  (repeat (first | (with_reducible refine Below.drew ?_) | (with_reducible refine below_drewN ?_ _) | (with_reducible refine Below.alloc ?_ (by first | omega | (simp; done) | (simp; omega) | (simp at *; omega)) _) | (with_reducible refine Below.setCell ?_ (by first | omega | (simp; done) | (simp; omega) | (simp at *; omega)) _) | (with_reducible exact Below.refl _ _) | (with_reducible assumption) | (with_reducible refine Below.trans ?_ (Below.mono (by assumption) (by first | omega | (simp; done) | (simp; omega) | (simp at *; omega))))))
set_option maxHeartbeats 4000000 in
set_option maxRecDepth 100000 in
theorem Real_far (L : List Fc) (A : Option Addr) (cap : Nat) (n : Nat) (x y v e1 l1 u1 e2 l2 u2 E : Int) (w : World) (hn : Hid (n = L.length)) (hl : L.length ≤ 1000000) (hL : SlRows fcV 3 w A L) (hE : Hid (ctE L = 0)) (hxy : ¬ y < x) (h1 : Hid (faE L x = e1)) (hl1 : Hid (faL L x = l1)) (hu1 : Hid (faU L x = u1)) (h2 : Hid (faE L y = e2)) (hl2 : Hid (faL L y = l2)) (hu2 : Hid (faU L y = u2)) (hF : Hid (firE [e1, e2, rngE v 1 1000000] = E)) (hz : (E != 0) = true) : Calls Try.prog 46 #[.slice A n cap, .agg #[.int .i64 x, .int .i64 y], .int .i64 v] w fun e w' => e = .returned (.tuple #[.agg #[.int .i64 0, .int .i64 0], .int .i64 E]) ∧ Below w.heap.size w w' := by
  have HL := Lib.hid hL
  have HCF : Hid (∀ (E : Int) w', SlRows fcV 3 w' A L → Hid (ctE L = E) → Calls Try.prog 48 #[.slice A n cap] w' fun e w'' => e = .returned (.int .i64 E) ∧ Below w'.heap.size w' w'') := Lib.hid (by rw [hn.out]; exact fun E w' hh hE => CheckFactors_any L A cap E w' hl hh hE)
  have HFA : Hid (∀ (x E l u : Int) w', SlRows fcV 3 w' A L → Hid (faE L x = E) → Hid (faL L x = l) → Hid (faU L x = u) → Calls Try.prog 44 #[.slice A n cap, .int .i64 x] w' fun e w'' => e = .returned (.tuple #[.agg #[.int .i64 l, .int .i64 u], .int .i64 E]) ∧ Below w'.heap.size w' w'') := Lib.hid (by rw [hn.out]; exact fun x E l u w' hh hE h1 h2 => FactorAt_any L A cap x E l u w' hl hh hE h1 h2)
  clear hL hn hl
  go_enter Try.func46, Try.ntmps46
  go_wp2_with fail
  refine (HCF.out 0 _ (HL.out.below (((Below.refl w.heap.size w).alloc (Nat.le_refl _) _).alloc (by simp) _)) hE).mono ?_
  rintro e xw1 ⟨rfl, hbx1⟩
  have zx1 := hbx1.size
  try simp at zx1
  obtain ⟨x1_0_0, x1_0_1, x1_1_0, x1_1_1⟩ : xw1.cell? ⟨w.heap.size, 0, none⟩ = some (.int .i64 x) ∧ xw1.cell? ⟨w.heap.size, 1, none⟩ = some (.int .i64 y) ∧ xw1.cell? ⟨w.heap.size + 1, 0, none⟩ = some (.int .i64 0) ∧ xw1.cell? ⟨w.heap.size + 1, 1, none⟩ = some (.int .i64 0) := by refine ⟨?_, ?_, ?_, ?_⟩ <;> (rw [(bcell hbx1).1 _ _ (by first | (simp; done) | (simp; omega) | omega)]; simp [go_sem, World.cell?_alloc_past, *])
  have x1f1 : (∀ j, xw1.frozen? ⟨w.heap.size + 1, j, none⟩ = false) := by (intro j; rw [(bcell hbx1).2 _ _ (by first | (simp; done) | (simp; omega) | omega)]; simp [go_sem, *])
  obtain ⟨x1o0, x1n0, x1m0, x1t0_0, x1t0_1, x1o1, x1n1, x1m1, x1t1_0, x1t1_1⟩ : w.heap.size < xw1.heap.size ∧ xw1.heap.size ≠ w.heap.size ∧ w.heap.size ≠ xw1.heap.size ∧ w.heap.size < xw1.heap.size + 1 ∧ w.heap.size < xw1.heap.size + 1 + 1 ∧ w.heap.size + 1 < xw1.heap.size ∧ xw1.heap.size ≠ w.heap.size + 1 ∧ w.heap.size + 1 ≠ xw1.heap.size ∧ w.heap.size + 1 < xw1.heap.size + 1 ∧ w.heap.size + 1 < xw1.heap.size + 1 + 1 := by refine ⟨?_, ?_, ?_, ?_, ?_, ?_, ?_, ?_, ?_, ?_⟩ <;> omega
  have hBx1 : Below w.heap.size w xw1 := (by (repeat (first | (with_reducible refine Below.drew ?_) | (with_reducible refine below_drewN ?_ _) | (with_reducible refine Below.alloc ?_ (by first | omega | (simp; done) | (simp; omega) | (simp at *; omega)) _) | (with_reducible refine Below.setCell ?_ (by first | omega | (simp; done) | (simp; omega) | (simp at *; omega)) _) | (with_reducible exact Below.refl _ _) | (with_reducible assumption) | (with_reducible refine Below.trans ?_ (Below.mono (by assumption) (by first | omega | (simp; done) | (simp; omega) | (simp at *; omega)))))))
  clear hbx1 
  go_wp2_with fail
  refine (HFA.out x e1 l1 u1 _ (HL.out.below hBx1) h1 hl1 hu1).mono ?_
  rintro e xw2 ⟨rfl, hbx2⟩
  have zx2 := hbx2.size
  try simp at zx2
  obtain ⟨x2_0_0, x2_0_1, x2_1_0, x2_1_1⟩ : xw2.cell? ⟨w.heap.size, 0, none⟩ = some (.int .i64 x) ∧ xw2.cell? ⟨w.heap.size, 1, none⟩ = some (.int .i64 y) ∧ xw2.cell? ⟨w.heap.size + 1, 0, none⟩ = some (.int .i64 0) ∧ xw2.cell? ⟨w.heap.size + 1, 1, none⟩ = some (.int .i64 0) := by refine ⟨?_, ?_, ?_, ?_⟩ <;> (rw [(bcell hbx2).1 _ _ (by first | (simp; done) | (simp; omega) | omega)]; simp [go_sem, World.cell?_alloc_past, *])
  have x2f1 : (∀ j, xw2.frozen? ⟨w.heap.size + 1, j, none⟩ = false) := by (intro j; rw [(bcell hbx2).2 _ _ (by first | (simp; done) | (simp; omega) | omega)]; simp [go_sem, *])
  obtain ⟨x2o0, x2n0, x2m0, x2t0_0, x2t0_1, x2o1, x2n1, x2m1, x2t1_0, x2t1_1⟩ : w.heap.size < xw2.heap.size ∧ xw2.heap.size ≠ w.heap.size ∧ w.heap.size ≠ xw2.heap.size ∧ w.heap.size < xw2.heap.size + 1 ∧ w.heap.size < xw2.heap.size + 1 + 1 ∧ w.heap.size + 1 < xw2.heap.size ∧ xw2.heap.size ≠ w.heap.size + 1 ∧ w.heap.size + 1 ≠ xw2.heap.size ∧ w.heap.size + 1 < xw2.heap.size + 1 ∧ w.heap.size + 1 < xw2.heap.size + 1 + 1 := by refine ⟨?_, ?_, ?_, ?_, ?_, ?_, ?_, ?_, ?_, ?_⟩ <;> omega
  have hBx2 : Below w.heap.size w xw2 := (by (repeat (first | (with_reducible refine Below.drew ?_) | (with_reducible refine below_drewN ?_ _) | (with_reducible refine Below.alloc ?_ (by first | omega | (simp; done) | (simp; omega) | (simp at *; omega)) _) | (with_reducible refine Below.setCell ?_ (by first | omega | (simp; done) | (simp; omega) | (simp at *; omega)) _) | (with_reducible exact Below.refl _ _) | (with_reducible assumption) | (with_reducible refine Below.trans ?_ (Below.mono (by assumption) (by first | omega | (simp; done) | (simp; omega) | (simp at *; omega)))))))
  clear hbx2 x1_0_0 x1_0_1 x1_1_0 x1_1_1 x1f1 x1o0 x1n0 x1m0 x1t0_0 x1t0_1 x1o1 x1n1 x1m1 x1t1_0 x1t1_1 hBx1
  go_wp2_with fail
  have ob1 : w.heap.size < xw2.heap.size := by omega
  have ob2 : w.heap.size + 1 < xw2.heap.size := by omega
  refine (HFA.out y e2 l2 u2 _ (HL.out.below (hBx2.alloc (by omega) _)) h2 hl2 hu2).mono ?_
  rintro e xw3 ⟨rfl, hbx3⟩
  have zx3 := hbx3.size
  try simp at zx3
  obtain ⟨x3_0_0, x3_0_1, x3_1_0, x3_1_1, x3_2_0, x3_2_1⟩ : xw3.cell? ⟨w.heap.size, 0, none⟩ = some (.int .i64 x) ∧ xw3.cell? ⟨w.heap.size, 1, none⟩ = some (.int .i64 y) ∧ xw3.cell? ⟨w.heap.size + 1, 0, none⟩ = some (.int .i64 0) ∧ xw3.cell? ⟨w.heap.size + 1, 1, none⟩ = some (.int .i64 0) ∧ xw3.cell? ⟨xw2.heap.size, 0, none⟩ = some (.int .i64 l1) ∧ xw3.cell? ⟨xw2.heap.size, 1, none⟩ = some (.int .i64 u1) := by refine ⟨?_, ?_, ?_, ?_, ?_, ?_⟩ <;> (rw [(bcell hbx3).1 _ _ (by first | (simp; done) | (simp; omega) | omega)]; simp [go_sem, World.cell?_alloc_past, *])
  have x3f1 : (∀ j, xw3.frozen? ⟨w.heap.size + 1, j, none⟩ = false) := by (intro j; rw [(bcell hbx3).2 _ _ (by first | (simp; done) | (simp; omega) | omega)]; simp [go_sem, *])
  obtain ⟨x3o0, x3n0, x3m0, x3t0_0, x3t0_1, x3o1, x3n1, x3m1, x3t1_0, x3t1_1, x3o2, x3n2, x3m2, x3t2_0, x3t2_1⟩ : w.heap.size < xw3.heap.size ∧ xw3.heap.size ≠ w.heap.size ∧ w.heap.size ≠ xw3.heap.size ∧ w.heap.size < xw3.heap.size + 1 ∧ w.heap.size < xw3.heap.size + 1 + 1 ∧ w.heap.size + 1 < xw3.heap.size ∧ xw3.heap.size ≠ w.heap.size + 1 ∧ w.heap.size + 1 ≠ xw3.heap.size ∧ w.heap.size + 1 < xw3.heap.size + 1 ∧ w.heap.size + 1 < xw3.heap.size + 1 + 1 ∧ xw2.heap.size < xw3.heap.size ∧ xw3.heap.size ≠ xw2.heap.size ∧ xw2.heap.size ≠ xw3.heap.size ∧ xw2.heap.size < xw3.heap.size + 1 ∧ xw2.heap.size < xw3.heap.size + 1 + 1 := by refine ⟨?_, ?_, ?_, ?_, ?_, ?_, ?_, ?_, ?_, ?_, ?_, ?_, ?_, ?_, ?_⟩ <;> omega
  have hBx3 : Below w.heap.size w xw3 := (by (repeat (first | (with_reducible refine Below.drew ?_) | (with_reducible refine below_drewN ?_ _) | (with_reducible refine Below.alloc ?_ (by first | omega | (simp; done) | (simp; omega) | (simp at *; omega)) _) | (with_reducible refine Below.setCell ?_ (by first | omega | (simp; done) | (simp; omega) | (simp at *; omega)) _) | (with_reducible exact Below.refl _ _) | (with_reducible assumption) | (with_reducible refine Below.trans ?_ (Below.mono (by assumption) (by first | omega | (simp; done) | (simp; omega) | (simp at *; omega)))))))
  clear hbx3 x2_0_0 x2_0_1 x2_1_0 x2_1_1 x2f1 x2o0 x2n0 x2m0 x2t0_0 x2t0_1 x2o1 x2n1 x2m1 x2t1_0 x2t1_1 hBx2
  generalize xw2.heap.size = s at *
  go_wp2_with fail
  refine (cRange_any _ _ _ _).mono ?_
  rintro e wq ⟨rfl, rfl⟩
  go_wp2_with fail
  refine (cF3x e1 e2 (rngE v 1 1000000) E _ _ hF (by simp [go_sem]) (by simp [go_sem]) (by simp [go_sem])).mono ?_
  rintro e wq ⟨rfl, rfl⟩
  go_wp2
  refine bodyPost_ret (v := .tuple #[.agg #[.int .i64 0, .int .i64 0], .int .i64 E]) (by simp [results, Try.results46, go_sem, World.cell?_alloc_past, *]) rfl ⟨rfl, ?_⟩
  (repeat (first | (with_reducible refine Below.drew ?_) | (with_reducible refine below_drewN ?_ _) | (with_reducible refine Below.alloc ?_ (by first | omega | (simp; done) | (simp; omega) | (simp at *; omega)) _) | (with_reducible refine Below.setCell ?_ (by first | omega | (simp; done) | (simp; omega) | (simp at *; omega)) _) | (with_reducible exact Below.refl _ _) | (with_reducible assumption) | (with_reducible refine Below.trans ?_ (Below.mono (by assumption) (by first | omega | (simp; done) | (simp; omega) | (simp at *; omega))))))
def RA11 (x y q1 r1 q2 r2 : Int) (w : World) (s14 s15 : Value) (wx : World) : Prop := ∃ m n, s14 = .pointer (some ⟨m, 0, none⟩) ∧ s15 = .pointer (some ⟨n, 0, none⟩) ∧ m < wx.heap.size ∧ n < wx.heap.size ∧ w.heap.size + 1 < wx.heap.size ∧ (wx.cell? ⟨w.heap.size + 1, 0, none⟩ = some (.int .i64 0) ∧ wx.cell? ⟨w.heap.size + 1, 1, none⟩ = some (.int .i64 0) ∧ wx.cell? ⟨m, 0, none⟩ = some (.int .i64 q1) ∧ wx.cell? ⟨m, 1, none⟩ = some (.int .i64 r1) ∧ wx.cell? ⟨n, 0, none⟩ = some (.int .i64 q2) ∧ wx.cell? ⟨n, 1, none⟩ = some (.int .i64 r2)) ∧ (∀ j, wx.frozen? ⟨w.heap.size + 1, j, none⟩ = false) ∧ Below w.heap.size w wx
set_option maxHeartbeats 4000000 in
set_option maxRecDepth 100000 in
theorem Real_ok (L : List Fc) (A : Option Addr) (cap : Nat) (n : Nat) (x y v l1 u1 l2 u2 P Q q1 r1 q2 r2 q r : Int) (w : World) (hn : Hid (n = L.length)) (hl : L.length ≤ 1000000) (hL : SlRows fcV 3 w A L) (hE : Hid (ctE L = 0)) (hxy : ¬ y < x) (h1 : Hid (faE L x = 0)) (hl1 : Hid (faL L x = l1)) (hu1 : Hid (faU L x = u1)) (h2 : Hid (faE L y = 0)) (hl2 : Hid (faL L y = l2)) (hu2 : Hid (faU L y = u2)) (hv : Hid (rngE v 1 1000000 = 0)) (hP : Hid (x * v = P)) (hQ : Hid (y * v = Q)) (P0 : 0 ≤ P) (P1 : P ≤ 400000000000) (Q0 : 0 ≤ Q) (Q1 : Q ≤ 400000000000) (bl1 : 1 ≤ l1) (bl1' : l1 ≤ 2000) (bu1 : 1 ≤ u1) (bu1' : u1 ≤ 2000) (bl2 : 1 ≤ l2) (bl2' : l2 ≤ 2000) (bu2 : 1 ≤ u2) (bu2' : u2 ≤ 2000) (hq1 : Hid (P / u1 = q1)) (hr1 : Hid (upI P l1 = r1)) (hq2 : Hid (Q / u2 = q2)) (hr2 : Hid (upI Q l2 = r2)) (hq : Hid (min q1 q2 = q)) (hr : Hid (max r1 r2 = r)) : Calls Try.prog 46 #[.slice A n cap, .agg #[.int .i64 x, .int .i64 y], .int .i64 v] w fun e w' => e = .returned (.tuple #[.agg #[.int .i64 q, .int .i64 r], .int .i64 0]) ∧ Below w.heap.size w w' := by
  have HL := Lib.hid hL
  have HCF : Hid (∀ (E : Int) w', SlRows fcV 3 w' A L → Hid (ctE L = E) → Calls Try.prog 48 #[.slice A n cap] w' fun e w'' => e = .returned (.int .i64 E) ∧ Below w'.heap.size w' w'') := Lib.hid (by rw [hn.out]; exact fun E w' hh hE => CheckFactors_any L A cap E w' hl hh hE)
  have HFA : Hid (∀ (x E l u : Int) w', SlRows fcV 3 w' A L → Hid (faE L x = E) → Hid (faL L x = l) → Hid (faU L x = u) → Calls Try.prog 44 #[.slice A n cap, .int .i64 x] w' fun e w'' => e = .returned (.tuple #[.agg #[.int .i64 l, .int .i64 u], .int .i64 E]) ∧ Below w'.heap.size w' w'') := Lib.hid (by rw [hn.out]; exact fun x E l u w' hh hE h1 h2 => FactorAt_any L A cap x E l u w' hl hh hE h1 h2)
  clear hL hn hl
  have hv' := hv.out
  go_enter Try.func46, Try.ntmps46
  go_wp2_with fail
  refine (HCF.out 0 _ (HL.out.below (((Below.refl w.heap.size w).alloc (Nat.le_refl _) _).alloc (by simp) _)) hE).mono ?_
  rintro e xw1 ⟨rfl, hbx1⟩
  have zx1 := hbx1.size
  try simp at zx1
  obtain ⟨x1_0_0, x1_0_1, x1_1_0, x1_1_1⟩ : xw1.cell? ⟨w.heap.size, 0, none⟩ = some (.int .i64 x) ∧ xw1.cell? ⟨w.heap.size, 1, none⟩ = some (.int .i64 y) ∧ xw1.cell? ⟨w.heap.size + 1, 0, none⟩ = some (.int .i64 0) ∧ xw1.cell? ⟨w.heap.size + 1, 1, none⟩ = some (.int .i64 0) := by refine ⟨?_, ?_, ?_, ?_⟩ <;> (rw [(bcell hbx1).1 _ _ (by first | (simp; done) | (simp; omega) | omega)]; simp [go_sem, World.cell?_alloc_past, *])
  have x1f1 : (∀ j, xw1.frozen? ⟨w.heap.size + 1, j, none⟩ = false) := by (intro j; rw [(bcell hbx1).2 _ _ (by first | (simp; done) | (simp; omega) | omega)]; simp [go_sem, *])
  obtain ⟨x1o0, x1n0, x1m0, x1t0_0, x1t0_1, x1o1, x1n1, x1m1, x1t1_0, x1t1_1⟩ : w.heap.size < xw1.heap.size ∧ xw1.heap.size ≠ w.heap.size ∧ w.heap.size ≠ xw1.heap.size ∧ w.heap.size < xw1.heap.size + 1 ∧ w.heap.size < xw1.heap.size + 1 + 1 ∧ w.heap.size + 1 < xw1.heap.size ∧ xw1.heap.size ≠ w.heap.size + 1 ∧ w.heap.size + 1 ≠ xw1.heap.size ∧ w.heap.size + 1 < xw1.heap.size + 1 ∧ w.heap.size + 1 < xw1.heap.size + 1 + 1 := by refine ⟨?_, ?_, ?_, ?_, ?_, ?_, ?_, ?_, ?_, ?_⟩ <;> omega
  have hBx1 : Below w.heap.size w xw1 := (by (repeat (first | (with_reducible refine Below.drew ?_) | (with_reducible refine below_drewN ?_ _) | (with_reducible refine Below.alloc ?_ (by first | omega | (simp; done) | (simp; omega) | (simp at *; omega)) _) | (with_reducible refine Below.setCell ?_ (by first | omega | (simp; done) | (simp; omega) | (simp at *; omega)) _) | (with_reducible exact Below.refl _ _) | (with_reducible assumption) | (with_reducible refine Below.trans ?_ (Below.mono (by assumption) (by first | omega | (simp; done) | (simp; omega) | (simp at *; omega)))))))
  clear hbx1 
  go_wp2_with fail
  refine (HFA.out x 0 l1 u1 _ (HL.out.below hBx1) h1 hl1 hu1).mono ?_
  rintro e xw2 ⟨rfl, hbx2⟩
  have zx2 := hbx2.size
  try simp at zx2
  obtain ⟨x2_0_0, x2_0_1, x2_1_0, x2_1_1⟩ : xw2.cell? ⟨w.heap.size, 0, none⟩ = some (.int .i64 x) ∧ xw2.cell? ⟨w.heap.size, 1, none⟩ = some (.int .i64 y) ∧ xw2.cell? ⟨w.heap.size + 1, 0, none⟩ = some (.int .i64 0) ∧ xw2.cell? ⟨w.heap.size + 1, 1, none⟩ = some (.int .i64 0) := by refine ⟨?_, ?_, ?_, ?_⟩ <;> (rw [(bcell hbx2).1 _ _ (by first | (simp; done) | (simp; omega) | omega)]; simp [go_sem, World.cell?_alloc_past, *])
  have x2f1 : (∀ j, xw2.frozen? ⟨w.heap.size + 1, j, none⟩ = false) := by (intro j; rw [(bcell hbx2).2 _ _ (by first | (simp; done) | (simp; omega) | omega)]; simp [go_sem, *])
  obtain ⟨x2o0, x2n0, x2m0, x2t0_0, x2t0_1, x2o1, x2n1, x2m1, x2t1_0, x2t1_1⟩ : w.heap.size < xw2.heap.size ∧ xw2.heap.size ≠ w.heap.size ∧ w.heap.size ≠ xw2.heap.size ∧ w.heap.size < xw2.heap.size + 1 ∧ w.heap.size < xw2.heap.size + 1 + 1 ∧ w.heap.size + 1 < xw2.heap.size ∧ xw2.heap.size ≠ w.heap.size + 1 ∧ w.heap.size + 1 ≠ xw2.heap.size ∧ w.heap.size + 1 < xw2.heap.size + 1 ∧ w.heap.size + 1 < xw2.heap.size + 1 + 1 := by refine ⟨?_, ?_, ?_, ?_, ?_, ?_, ?_, ?_, ?_, ?_⟩ <;> omega
  have hBx2 : Below w.heap.size w xw2 := (by (repeat (first | (with_reducible refine Below.drew ?_) | (with_reducible refine below_drewN ?_ _) | (with_reducible refine Below.alloc ?_ (by first | omega | (simp; done) | (simp; omega) | (simp at *; omega)) _) | (with_reducible refine Below.setCell ?_ (by first | omega | (simp; done) | (simp; omega) | (simp at *; omega)) _) | (with_reducible exact Below.refl _ _) | (with_reducible assumption) | (with_reducible refine Below.trans ?_ (Below.mono (by assumption) (by first | omega | (simp; done) | (simp; omega) | (simp at *; omega)))))))
  clear hbx2 x1_0_0 x1_0_1 x1_1_0 x1_1_1 x1f1 x1o0 x1n0 x1m0 x1t0_0 x1t0_1 x1o1 x1n1 x1m1 x1t1_0 x1t1_1 hBx1
  go_wp2_with fail
  have ob1 : w.heap.size < xw2.heap.size := by omega
  have ob2 : w.heap.size + 1 < xw2.heap.size := by omega
  refine (HFA.out y 0 l2 u2 _ (HL.out.below (hBx2.alloc (by omega) _)) h2 hl2 hu2).mono ?_
  rintro e xw3 ⟨rfl, hbx3⟩
  have zx3 := hbx3.size
  try simp at zx3
  obtain ⟨x3_0_0, x3_0_1, x3_1_0, x3_1_1, x3_2_0, x3_2_1⟩ : xw3.cell? ⟨w.heap.size, 0, none⟩ = some (.int .i64 x) ∧ xw3.cell? ⟨w.heap.size, 1, none⟩ = some (.int .i64 y) ∧ xw3.cell? ⟨w.heap.size + 1, 0, none⟩ = some (.int .i64 0) ∧ xw3.cell? ⟨w.heap.size + 1, 1, none⟩ = some (.int .i64 0) ∧ xw3.cell? ⟨xw2.heap.size, 0, none⟩ = some (.int .i64 l1) ∧ xw3.cell? ⟨xw2.heap.size, 1, none⟩ = some (.int .i64 u1) := by refine ⟨?_, ?_, ?_, ?_, ?_, ?_⟩ <;> (rw [(bcell hbx3).1 _ _ (by first | (simp; done) | (simp; omega) | omega)]; simp [go_sem, World.cell?_alloc_past, *])
  have x3f1 : (∀ j, xw3.frozen? ⟨w.heap.size + 1, j, none⟩ = false) := by (intro j; rw [(bcell hbx3).2 _ _ (by first | (simp; done) | (simp; omega) | omega)]; simp [go_sem, *])
  obtain ⟨x3o0, x3n0, x3m0, x3t0_0, x3t0_1, x3o1, x3n1, x3m1, x3t1_0, x3t1_1, x3o2, x3n2, x3m2, x3t2_0, x3t2_1⟩ : w.heap.size < xw3.heap.size ∧ xw3.heap.size ≠ w.heap.size ∧ w.heap.size ≠ xw3.heap.size ∧ w.heap.size < xw3.heap.size + 1 ∧ w.heap.size < xw3.heap.size + 1 + 1 ∧ w.heap.size + 1 < xw3.heap.size ∧ xw3.heap.size ≠ w.heap.size + 1 ∧ w.heap.size + 1 ≠ xw3.heap.size ∧ w.heap.size + 1 < xw3.heap.size + 1 ∧ w.heap.size + 1 < xw3.heap.size + 1 + 1 ∧ xw2.heap.size < xw3.heap.size ∧ xw3.heap.size ≠ xw2.heap.size ∧ xw2.heap.size ≠ xw3.heap.size ∧ xw2.heap.size < xw3.heap.size + 1 ∧ xw2.heap.size < xw3.heap.size + 1 + 1 := by refine ⟨?_, ?_, ?_, ?_, ?_, ?_, ?_, ?_, ?_, ?_, ?_, ?_, ?_, ?_, ?_⟩ <;> omega
  have hBx3 : Below w.heap.size w xw3 := (by (repeat (first | (with_reducible refine Below.drew ?_) | (with_reducible refine below_drewN ?_ _) | (with_reducible refine Below.alloc ?_ (by first | omega | (simp; done) | (simp; omega) | (simp at *; omega)) _) | (with_reducible refine Below.setCell ?_ (by first | omega | (simp; done) | (simp; omega) | (simp at *; omega)) _) | (with_reducible exact Below.refl _ _) | (with_reducible assumption) | (with_reducible refine Below.trans ?_ (Below.mono (by assumption) (by first | omega | (simp; done) | (simp; omega) | (simp at *; omega)))))))
  clear hbx3 x2_0_0 x2_0_1 x2_1_0 x2_1_1 x2f1 x2o0 x2n0 x2m0 x2t0_0 x2t0_1 x2o1 x2n1 x2m1 x2t1_0 x2t1_1 hBx2
  generalize xw2.heap.size = s at *
  go_wp2_with fail
  refine (cRange_any _ _ _ _).mono ?_
  rintro e wq ⟨rfl, rfl⟩
  go_wp2_with fail
  refine (cF3x 0 0 0 0 _ _ (Lib.hid rfl) (by simp [go_sem]) (by simp [go_sem]) (by simp [go_sem])).mono ?_
  rintro e wq ⟨rfl, rfl⟩
  go_upto_region 11 with (fail)
  go_cut [14, 15] from 52 to 61 (fun s14 s15 wx => RA11 x y q1 r1 q2 r2 w s14 s15 wx)
  case first =>
    refine wp_region_held_drew (S := (fun w' => w'.cell? ⟨w.heap.size, 0, none⟩ = some (.int .i64 x) ∧ w'.cell? ⟨w.heap.size, 1, none⟩ = some (.int .i64 y) ∧ w'.cell? ⟨s, 0, none⟩ = some (.int .i64 l1) ∧ w'.cell? ⟨s, 1, none⟩ = some (.int .i64 u1) ∧ w'.cell? ⟨xw3.heap.size, 0, none⟩ = some (.int .i64 l2) ∧ w'.cell? ⟨xw3.heap.size, 1, none⟩ = some (.int .i64 u2))) (by kernel_rfl) (by simp [go_sem, World.cell?_alloc_past, *]) (fun hHeld => ?_)
    refine tkH 0 ⟨some 52, _, _, _, _, _⟩ ?_ rfl ?_ (by assumption) ?_
    rotate_left
    · (intro w hSw; (try dsimp only at hSw); go_simp; all_goals with_reducible rfl)
    try simp only [Act.put, sA, sB, sC]
    refine tkH 1 ⟨some 53, _, _, _, _, _⟩ ?_ rfl ?_ (by assumption) ?_
    rotate_left
    · (intro w hSw; (try dsimp only at hSw); go_simp; all_goals with_reducible rfl)
    try simp only [Act.put, sA, sB, sC]
    refine tkH 2 ⟨some 54, _, _, _, _, _⟩ ?_ rfl ?_ (by assumption) ?_
    rotate_left
    · (intro w hSw; (try dsimp only at hSw); go_simp; all_goals with_reducible rfl)
    try simp only [Act.put, sA, sB, sC]
    refine tkH 3 ⟨some 55, _, _, _, _, _⟩ ?_ rfl ?_ (by assumption) ?_
    rotate_left
    · (intro w hSw; (try dsimp only at hSw); go_simp; all_goals with_reducible rfl)
    try simp only [Act.put, sA, sB, sC]
    refine tkH 5 ⟨some 57, _, _, _, _, _⟩ ?_ rfl ?_ (by assumption) ?_
    rotate_left
    · (intro w hSw; (try dsimp only at hSw); go_simp; all_goals with_reducible rfl)
    try simp only [Act.put, sA, sB, sC]
    refine tkH 6 ⟨some 58, _, _, _, _, _⟩ ?_ rfl ?_ (by assumption) ?_
    rotate_left
    · (intro w hSw; (try dsimp only at hSw); go_simp; all_goals with_reducible rfl)
    try simp only [Act.put, sA, sB, sC]
    refine tkH 7 ⟨some 59, _, _, _, _, _⟩ ?_ rfl ?_ (by assumption) ?_
    rotate_left
    · (intro w hSw; (try dsimp only at hSw); go_simp; all_goals with_reducible rfl)
    try simp only [Act.put, sA, sB, sC]
    refine tkH 8 ⟨some 60, _, _, _, _, _⟩ ?_ rfl ?_ (by assumption) ?_
    rotate_left
    · (intro w hSw; (try dsimp only at hSw); go_simp; all_goals with_reducible rfl)
    try simp only [Act.put, sA, sB, sC]
    refine wpAnyH_ready (rs := [4, 10, 11]) (by kernel_rfl) (by simp) ?_
    refine AllReadyH.cons rfl (fun K hK => ?_) (AllReadyH.cons rfl (fun K hK => ?_) (AllReadyH.cons rfl (fun K hK => ?_) (AllReadyH.nil)))
    · skip
      go_simp
      refine (amountsAt_any x v l1 u1 P q1 r1 _ hP P0 P1 bl1 bl1' bu1 bu1' hq1 hr1).mono ?_
      rintro e xw4 ⟨rfl, hbx4⟩
      have zx4 := hbx4.size
      try simp at zx4
      obtain ⟨x4_0_0, x4_0_1, x4_1_0, x4_1_1, x4_2_0, x4_2_1, x4_3_0, x4_3_1⟩ : xw4.cell? ⟨w.heap.size, 0, none⟩ = some (.int .i64 x) ∧ xw4.cell? ⟨w.heap.size, 1, none⟩ = some (.int .i64 y) ∧ xw4.cell? ⟨w.heap.size + 1, 0, none⟩ = some (.int .i64 0) ∧ xw4.cell? ⟨w.heap.size + 1, 1, none⟩ = some (.int .i64 0) ∧ xw4.cell? ⟨s, 0, none⟩ = some (.int .i64 l1) ∧ xw4.cell? ⟨s, 1, none⟩ = some (.int .i64 u1) ∧ xw4.cell? ⟨xw3.heap.size, 0, none⟩ = some (.int .i64 l2) ∧ xw4.cell? ⟨xw3.heap.size, 1, none⟩ = some (.int .i64 u2) := by refine ⟨?_, ?_, ?_, ?_, ?_, ?_, ?_, ?_⟩ <;> (rw [(bcell hbx4).1 _ _ (by first | (simp; done) | (simp; omega) | omega)]; simp [go_sem, World.cell?_alloc_past, *])
      have x4f1 : (∀ j, xw4.frozen? ⟨w.heap.size + 1, j, none⟩ = false) := by (intro j; rw [(bcell hbx4).2 _ _ (by first | (simp; done) | (simp; omega) | omega)]; simp [go_sem, *])
      obtain ⟨x4o0, x4n0, x4m0, x4t0_0, x4t0_1, x4o1, x4n1, x4m1, x4t1_0, x4t1_1, x4o2, x4n2, x4m2, x4t2_0, x4t2_1, x4o3, x4n3, x4m3, x4t3_0, x4t3_1⟩ : w.heap.size < xw4.heap.size ∧ xw4.heap.size ≠ w.heap.size ∧ w.heap.size ≠ xw4.heap.size ∧ w.heap.size < xw4.heap.size + 1 ∧ w.heap.size < xw4.heap.size + 1 + 1 ∧ w.heap.size + 1 < xw4.heap.size ∧ xw4.heap.size ≠ w.heap.size + 1 ∧ w.heap.size + 1 ≠ xw4.heap.size ∧ w.heap.size + 1 < xw4.heap.size + 1 ∧ w.heap.size + 1 < xw4.heap.size + 1 + 1 ∧ s < xw4.heap.size ∧ xw4.heap.size ≠ s ∧ s ≠ xw4.heap.size ∧ s < xw4.heap.size + 1 ∧ s < xw4.heap.size + 1 + 1 ∧ xw3.heap.size < xw4.heap.size ∧ xw4.heap.size ≠ xw3.heap.size ∧ xw3.heap.size ≠ xw4.heap.size ∧ xw3.heap.size < xw4.heap.size + 1 ∧ xw3.heap.size < xw4.heap.size + 1 + 1 := by refine ⟨?_, ?_, ?_, ?_, ?_, ?_, ?_, ?_, ?_, ?_, ?_, ?_, ?_, ?_, ?_, ?_, ?_, ?_, ?_, ?_⟩ <;> omega
      have hBx4 : Below w.heap.size w xw4 := (by (repeat (first | (with_reducible refine Below.drew ?_) | (with_reducible refine below_drewN ?_ _) | (with_reducible refine Below.alloc ?_ (by first | omega | (simp; done) | (simp; omega) | (simp at *; omega)) _) | (with_reducible refine Below.setCell ?_ (by first | omega | (simp; done) | (simp; omega) | (simp at *; omega)) _) | (with_reducible exact Below.refl _ _) | (with_reducible assumption) | (with_reducible refine Below.trans ?_ (Below.mono (by assumption) (by first | omega | (simp; done) | (simp; omega) | (simp at *; omega)))))))
      clear hbx4 x3_0_0 x3_0_1 x3_1_0 x3_1_1 x3_2_0 x3_2_1 x3f1 x3o0 x3n0 x3m0 x3t0_0 x3t0_1 x3o1 x3n1 x3m1 x3t1_0 x3t1_1 x3o2 x3n2 x3m2 x3t2_0 x3t2_1 hBx3
      go_wp2_with fail
      refine hK.out _ _ (by simp [go_sem, World.cell?_alloc_past, *]) (fun hHeld => ?_)
      clear hK K
      try simp only [Act.put, sA, sB, sC]
      refine wpAnyH_ready (rs := [9, 10, 11]) (by kernel_rfl) (by simp) ?_
      refine AllReadyH.cons rfl (fun K hK => ?_) (AllReadyH.cons rfl (fun K hK => ?_) (AllReadyH.cons rfl (fun K hK => ?_) (AllReadyH.nil)))
      · skip
        go_simp
        refine (amountsAt_any y v l2 u2 Q q2 r2 _ hQ Q0 Q1 bl2 bl2' bu2 bu2' hq2 hr2).mono ?_
        rintro e xw5 ⟨rfl, hbx5⟩
        have zx5 := hbx5.size
        try simp at zx5
        obtain ⟨x5_0_0, x5_0_1, x5_1_0, x5_1_1, x5_2_0, x5_2_1, x5_3_0, x5_3_1⟩ : xw5.cell? ⟨w.heap.size, 0, none⟩ = some (.int .i64 x) ∧ xw5.cell? ⟨w.heap.size, 1, none⟩ = some (.int .i64 y) ∧ xw5.cell? ⟨w.heap.size + 1, 0, none⟩ = some (.int .i64 0) ∧ xw5.cell? ⟨w.heap.size + 1, 1, none⟩ = some (.int .i64 0) ∧ xw5.cell? ⟨s, 0, none⟩ = some (.int .i64 l1) ∧ xw5.cell? ⟨s, 1, none⟩ = some (.int .i64 u1) ∧ xw5.cell? ⟨xw3.heap.size, 0, none⟩ = some (.int .i64 l2) ∧ xw5.cell? ⟨xw3.heap.size, 1, none⟩ = some (.int .i64 u2) := by refine ⟨?_, ?_, ?_, ?_, ?_, ?_, ?_, ?_⟩ <;> (rw [(bcell hbx5).1 _ _ (by first | (simp; done) | (simp; omega) | omega)]; simp [go_sem, World.cell?_alloc_past, *])
        have x5f1 : (∀ j, xw5.frozen? ⟨w.heap.size + 1, j, none⟩ = false) := by (intro j; rw [(bcell hbx5).2 _ _ (by first | (simp; done) | (simp; omega) | omega)]; simp [go_sem, *])
        obtain ⟨x5o0, x5n0, x5m0, x5t0_0, x5t0_1, x5o1, x5n1, x5m1, x5t1_0, x5t1_1, x5o2, x5n2, x5m2, x5t2_0, x5t2_1, x5o3, x5n3, x5m3, x5t3_0, x5t3_1⟩ : w.heap.size < xw5.heap.size ∧ xw5.heap.size ≠ w.heap.size ∧ w.heap.size ≠ xw5.heap.size ∧ w.heap.size < xw5.heap.size + 1 ∧ w.heap.size < xw5.heap.size + 1 + 1 ∧ w.heap.size + 1 < xw5.heap.size ∧ xw5.heap.size ≠ w.heap.size + 1 ∧ w.heap.size + 1 ≠ xw5.heap.size ∧ w.heap.size + 1 < xw5.heap.size + 1 ∧ w.heap.size + 1 < xw5.heap.size + 1 + 1 ∧ s < xw5.heap.size ∧ xw5.heap.size ≠ s ∧ s ≠ xw5.heap.size ∧ s < xw5.heap.size + 1 ∧ s < xw5.heap.size + 1 + 1 ∧ xw3.heap.size < xw5.heap.size ∧ xw5.heap.size ≠ xw3.heap.size ∧ xw3.heap.size ≠ xw5.heap.size ∧ xw3.heap.size < xw5.heap.size + 1 ∧ xw3.heap.size < xw5.heap.size + 1 + 1 := by refine ⟨?_, ?_, ?_, ?_, ?_, ?_, ?_, ?_, ?_, ?_, ?_, ?_, ?_, ?_, ?_, ?_, ?_, ?_, ?_, ?_⟩ <;> omega
        have hBx5 : Below w.heap.size w xw5 := (by (repeat (first | (with_reducible refine Below.drew ?_) | (with_reducible refine below_drewN ?_ _) | (with_reducible refine Below.alloc ?_ (by first | omega | (simp; done) | (simp; omega) | (simp at *; omega)) _) | (with_reducible refine Below.setCell ?_ (by first | omega | (simp; done) | (simp; omega) | (simp at *; omega)) _) | (with_reducible exact Below.refl _ _) | (with_reducible assumption) | (with_reducible refine Below.trans ?_ (Below.mono (by assumption) (by first | omega | (simp; done) | (simp; omega) | (simp at *; omega)))))))
        clear hbx5 x4_0_0 x4_0_1 x4_1_0 x4_1_1 x4_2_0 x4_2_1 x4_3_0 x4_3_1 x4f1 x4o0 x4n0 x4m0 x4t0_0 x4t0_1 x4o1 x4n1 x4m1 x4t1_0 x4t1_1 x4o2 x4n2 x4m2 x4t2_0 x4t2_1 x4o3 x4n3 x4m3 x4t3_0 x4t3_1 hBx4
        go_wp2_with fail
        refine hK.out _ _ (by simp [go_sem, World.cell?_alloc_past, *]) (fun hHeld => ?_)
        clear hK K
        try simp only [Act.put, sA, sB, sC]
        refine wpAnyH_ready (rs := [10, 11]) (by kernel_rfl) (by simp) ?_
        refine AllReadyH.cons rfl (fun K hK => ?_) (AllReadyH.cons rfl (fun K hK => ?_) (AllReadyH.nil))
        · skip
          go_simp
          go_wp2_with fail
          refine hK.out _ _ (by simp [go_sem, World.cell?_alloc_past, *]) (fun hHeld => ?_)
          clear hK K
          try simp only [Act.put, sA, sB, sC]
          refine wpAnyH_ready (rs := [11]) (by kernel_rfl) (by simp) ?_
          refine AllReadyH.cons rfl (fun K hK => ?_) (AllReadyH.nil)
          go_simp
          go_wp2_with fail
          refine hK.out _ _ (by simp [go_sem, World.cell?_alloc_past, *]) (fun hHeld => ?_)
          clear hK K
          try simp only [Act.put, sA, sB, sC]
          refine wpAnyH_ready (rs := [12]) (by kernel_rfl) (by simp) ?_
          refine AllReadyH.cons rfl (fun K hK => ?_) (AllReadyH.nil)
          go_simp
          go_wp2_with fail
          refine hK.out _ _ (by simp [go_sem, World.cell?_alloc_past, *]) (fun hHeld => ?_)
          clear hK K
          try simp only [Act.put, sA, sB, sC]
          refine wpAnyH_ready (rs := [13]) (by kernel_rfl) (by simp) ?_
          refine AllReadyH.cons rfl (fun K hK => ?_) (AllReadyH.nil)
          go_simp
          go_wp2_with fail
          refine hK.out _ _ (by simp [go_sem, World.cell?_alloc_past, *]) (fun hHeld => ?_)
          clear hK K
          try simp only [Act.put, sA, sB, sC]
          refine wpAnyH_done (by kernel_rfl) ?_ _
          go_wp2_with fail
          go_meet
          refine ⟨xw5.heap.size, xw5.heap.size + 1, rfl, rfl, by first | omega | (simp; done) | (simp; omega), by first | omega | (simp; done) | (simp; omega), by first | omega | (simp; done) | (simp; omega), ⟨(by simp [go_sem, World.cell?_alloc_past, *]), (by simp [go_sem, World.cell?_alloc_past, *]), (by simp [go_sem, World.cell?_alloc_past, *]), (by simp [go_sem, World.cell?_alloc_past, *]), (by simp [go_sem, World.cell?_alloc_past, *]), (by simp [go_sem, World.cell?_alloc_past, *])⟩, by intro j; simp [go_sem, *], ?_⟩
          (repeat (first | (with_reducible refine Below.drew ?_) | (with_reducible refine below_drewN ?_ _) | (with_reducible refine Below.alloc ?_ (by first | omega | (simp; done) | (simp; omega) | (simp at *; omega)) _) | (with_reducible refine Below.setCell ?_ (by first | omega | (simp; done) | (simp; omega) | (simp at *; omega)) _) | (with_reducible exact Below.refl _ _) | (with_reducible assumption) | (with_reducible refine Below.trans ?_ (Below.mono (by assumption) (by first | omega | (simp; done) | (simp; omega) | (simp at *; omega))))))
        · skip
          go_simp
          go_wp2_with fail
          refine hK.out _ _ (by simp [go_sem, World.cell?_alloc_past, *]) (fun hHeld => ?_)
          clear hK K
          try simp only [Act.put, sA, sB, sC]
          refine wpAnyH_ready (rs := [10]) (by kernel_rfl) (by simp) ?_
          refine AllReadyH.cons rfl (fun K hK => ?_) (AllReadyH.nil)
          go_simp
          go_wp2_with fail
          refine hK.out _ _ (by simp [go_sem, World.cell?_alloc_past, *]) (fun hHeld => ?_)
          clear hK K
          try simp only [Act.put, sA, sB, sC]
          refine wpAnyH_ready (rs := [12]) (by kernel_rfl) (by simp) ?_
          refine AllReadyH.cons rfl (fun K hK => ?_) (AllReadyH.nil)
          go_simp
          go_wp2_with fail
          refine hK.out _ _ (by simp [go_sem, World.cell?_alloc_past, *]) (fun hHeld => ?_)
          clear hK K
          try simp only [Act.put, sA, sB, sC]
          refine wpAnyH_ready (rs := [13]) (by kernel_rfl) (by simp) ?_
          refine AllReadyH.cons rfl (fun K hK => ?_) (AllReadyH.nil)
          go_simp
          go_wp2_with fail
          refine hK.out _ _ (by simp [go_sem, World.cell?_alloc_past, *]) (fun hHeld => ?_)
          clear hK K
          try simp only [Act.put, sA, sB, sC]
          refine wpAnyH_done (by kernel_rfl) ?_ _
          go_wp2_with fail
          go_meet
          refine ⟨xw5.heap.size + 1, xw5.heap.size, rfl, rfl, by first | omega | (simp; done) | (simp; omega), by first | omega | (simp; done) | (simp; omega), by first | omega | (simp; done) | (simp; omega), ⟨(by simp [go_sem, World.cell?_alloc_past, *]), (by simp [go_sem, World.cell?_alloc_past, *]), (by simp [go_sem, World.cell?_alloc_past, *]), (by simp [go_sem, World.cell?_alloc_past, *]), (by simp [go_sem, World.cell?_alloc_past, *]), (by simp [go_sem, World.cell?_alloc_past, *])⟩, by intro j; simp [go_sem, *], ?_⟩
          (repeat (first | (with_reducible refine Below.drew ?_) | (with_reducible refine below_drewN ?_ _) | (with_reducible refine Below.alloc ?_ (by first | omega | (simp; done) | (simp; omega) | (simp at *; omega)) _) | (with_reducible refine Below.setCell ?_ (by first | omega | (simp; done) | (simp; omega) | (simp at *; omega)) _) | (with_reducible exact Below.refl _ _) | (with_reducible assumption) | (with_reducible refine Below.trans ?_ (Below.mono (by assumption) (by first | omega | (simp; done) | (simp; omega) | (simp at *; omega))))))
      · skip
        go_simp
        go_wp2_with fail
        refine hK.out _ _ (by simp [go_sem, World.cell?_alloc_past, *]) (fun hHeld => ?_)
        clear hK K
        try simp only [Act.put, sA, sB, sC]
        refine wpAnyH_ready (rs := [9, 11]) (by kernel_rfl) (by simp) ?_
        refine AllReadyH.cons rfl (fun K hK => ?_) (AllReadyH.cons rfl (fun K hK => ?_) (AllReadyH.nil))
        · skip
          go_simp
          refine (amountsAt_any y v l2 u2 Q q2 r2 _ hQ Q0 Q1 bl2 bl2' bu2 bu2' hq2 hr2).mono ?_
          rintro e xw5 ⟨rfl, hbx5⟩
          have zx5 := hbx5.size
          try simp at zx5
          obtain ⟨x5_0_0, x5_0_1, x5_1_0, x5_1_1, x5_2_0, x5_2_1, x5_3_0, x5_3_1, x5_4_0, x5_4_1⟩ : xw5.cell? ⟨w.heap.size, 0, none⟩ = some (.int .i64 x) ∧ xw5.cell? ⟨w.heap.size, 1, none⟩ = some (.int .i64 y) ∧ xw5.cell? ⟨w.heap.size + 1, 0, none⟩ = some (.int .i64 0) ∧ xw5.cell? ⟨w.heap.size + 1, 1, none⟩ = some (.int .i64 0) ∧ xw5.cell? ⟨s, 0, none⟩ = some (.int .i64 l1) ∧ xw5.cell? ⟨s, 1, none⟩ = some (.int .i64 u1) ∧ xw5.cell? ⟨xw3.heap.size, 0, none⟩ = some (.int .i64 l2) ∧ xw5.cell? ⟨xw3.heap.size, 1, none⟩ = some (.int .i64 u2) ∧ xw5.cell? ⟨xw4.heap.size, 0, none⟩ = some (.int .i64 0) ∧ xw5.cell? ⟨xw4.heap.size, 1, none⟩ = some (.int .i64 0) := by refine ⟨?_, ?_, ?_, ?_, ?_, ?_, ?_, ?_, ?_, ?_⟩ <;> (rw [(bcell hbx5).1 _ _ (by first | (simp; done) | (simp; omega) | omega)]; simp [go_sem, World.cell?_alloc_past, *])
          obtain ⟨x5f1, x5f4⟩ : (∀ j, xw5.frozen? ⟨w.heap.size + 1, j, none⟩ = false) ∧ (∀ j, xw5.frozen? ⟨xw4.heap.size, j, none⟩ = false) := by refine ⟨?_, ?_⟩ <;> (intro j; rw [(bcell hbx5).2 _ _ (by first | (simp; done) | (simp; omega) | omega)]; simp [go_sem, *])
          obtain ⟨x5o0, x5n0, x5m0, x5t0_0, x5t0_1, x5o1, x5n1, x5m1, x5t1_0, x5t1_1, x5o2, x5n2, x5m2, x5t2_0, x5t2_1, x5o3, x5n3, x5m3, x5t3_0, x5t3_1, x5o4, x5n4, x5m4, x5t4_0, x5t4_1⟩ : w.heap.size < xw5.heap.size ∧ xw5.heap.size ≠ w.heap.size ∧ w.heap.size ≠ xw5.heap.size ∧ w.heap.size < xw5.heap.size + 1 ∧ w.heap.size < xw5.heap.size + 1 + 1 ∧ w.heap.size + 1 < xw5.heap.size ∧ xw5.heap.size ≠ w.heap.size + 1 ∧ w.heap.size + 1 ≠ xw5.heap.size ∧ w.heap.size + 1 < xw5.heap.size + 1 ∧ w.heap.size + 1 < xw5.heap.size + 1 + 1 ∧ s < xw5.heap.size ∧ xw5.heap.size ≠ s ∧ s ≠ xw5.heap.size ∧ s < xw5.heap.size + 1 ∧ s < xw5.heap.size + 1 + 1 ∧ xw3.heap.size < xw5.heap.size ∧ xw5.heap.size ≠ xw3.heap.size ∧ xw3.heap.size ≠ xw5.heap.size ∧ xw3.heap.size < xw5.heap.size + 1 ∧ xw3.heap.size < xw5.heap.size + 1 + 1 ∧ xw4.heap.size < xw5.heap.size ∧ xw5.heap.size ≠ xw4.heap.size ∧ xw4.heap.size ≠ xw5.heap.size ∧ xw4.heap.size < xw5.heap.size + 1 ∧ xw4.heap.size < xw5.heap.size + 1 + 1 := by refine ⟨?_, ?_, ?_, ?_, ?_, ?_, ?_, ?_, ?_, ?_, ?_, ?_, ?_, ?_, ?_, ?_, ?_, ?_, ?_, ?_, ?_, ?_, ?_, ?_, ?_⟩ <;> omega
          have hBx5 : Below w.heap.size w xw5 := (by (repeat (first | (with_reducible refine Below.drew ?_) | (with_reducible refine below_drewN ?_ _) | (with_reducible refine Below.alloc ?_ (by first | omega | (simp; done) | (simp; omega) | (simp at *; omega)) _) | (with_reducible refine Below.setCell ?_ (by first | omega | (simp; done) | (simp; omega) | (simp at *; omega)) _) | (with_reducible exact Below.refl _ _) | (with_reducible assumption) | (with_reducible refine Below.trans ?_ (Below.mono (by assumption) (by first | omega | (simp; done) | (simp; omega) | (simp at *; omega)))))))
          clear hbx5 x4_0_0 x4_0_1 x4_1_0 x4_1_1 x4_2_0 x4_2_1 x4_3_0 x4_3_1 x4f1 x4o0 x4n0 x4m0 x4t0_0 x4t0_1 x4o1 x4n1 x4m1 x4t1_0 x4t1_1 x4o2 x4n2 x4m2 x4t2_0 x4t2_1 x4o3 x4n3 x4m3 x4t3_0 x4t3_1 hBx4
          go_wp2_with fail
          refine hK.out _ _ (by simp [go_sem, World.cell?_alloc_past, *]) (fun hHeld => ?_)
          clear hK K
          try simp only [Act.put, sA, sB, sC]
          refine wpAnyH_ready (rs := [11]) (by kernel_rfl) (by simp) ?_
          refine AllReadyH.cons rfl (fun K hK => ?_) (AllReadyH.nil)
          go_simp
          go_wp2_with fail
          refine hK.out _ _ (by simp [go_sem, World.cell?_alloc_past, *]) (fun hHeld => ?_)
          clear hK K
          try simp only [Act.put, sA, sB, sC]
          refine wpAnyH_ready (rs := [12]) (by kernel_rfl) (by simp) ?_
          refine AllReadyH.cons rfl (fun K hK => ?_) (AllReadyH.nil)
          go_simp
          go_wp2_with fail
          refine hK.out _ _ (by simp [go_sem, World.cell?_alloc_past, *]) (fun hHeld => ?_)
          clear hK K
          try simp only [Act.put, sA, sB, sC]
          refine wpAnyH_ready (rs := [13]) (by kernel_rfl) (by simp) ?_
          refine AllReadyH.cons rfl (fun K hK => ?_) (AllReadyH.nil)
          go_simp
          go_wp2_with fail
          refine hK.out _ _ (by simp [go_sem, World.cell?_alloc_past, *]) (fun hHeld => ?_)
          clear hK K
          try simp only [Act.put, sA, sB, sC]
          refine wpAnyH_done (by kernel_rfl) ?_ _
          go_wp2_with fail
          go_meet
          refine ⟨xw4.heap.size, xw5.heap.size, rfl, rfl, by first | omega | (simp; done) | (simp; omega), by first | omega | (simp; done) | (simp; omega), by first | omega | (simp; done) | (simp; omega), ⟨(by simp [go_sem, World.cell?_alloc_past, *]), (by simp [go_sem, World.cell?_alloc_past, *]), (by simp [go_sem, World.cell?_alloc_past, *]), (by simp [go_sem, World.cell?_alloc_past, *]), (by simp [go_sem, World.cell?_alloc_past, *]), (by simp [go_sem, World.cell?_alloc_past, *])⟩, by intro j; simp [go_sem, *], ?_⟩
          (repeat (first | (with_reducible refine Below.drew ?_) | (with_reducible refine below_drewN ?_ _) | (with_reducible refine Below.alloc ?_ (by first | omega | (simp; done) | (simp; omega) | (simp at *; omega)) _) | (with_reducible refine Below.setCell ?_ (by first | omega | (simp; done) | (simp; omega) | (simp at *; omega)) _) | (with_reducible exact Below.refl _ _) | (with_reducible assumption) | (with_reducible refine Below.trans ?_ (Below.mono (by assumption) (by first | omega | (simp; done) | (simp; omega) | (simp at *; omega))))))
        · skip
          go_simp
          go_wp2_with fail
          refine hK.out _ _ (by simp [go_sem, World.cell?_alloc_past, *]) (fun hHeld => ?_)
          clear hK K
          try simp only [Act.put, sA, sB, sC]
          refine wpAnyH_ready (rs := [9]) (by kernel_rfl) (by simp) ?_
          refine AllReadyH.cons rfl (fun K hK => ?_) (AllReadyH.nil)
          go_simp
          refine (amountsAt_any y v l2 u2 Q q2 r2 _ hQ Q0 Q1 bl2 bl2' bu2 bu2' hq2 hr2).mono ?_
          rintro e xw5 ⟨rfl, hbx5⟩
          have zx5 := hbx5.size
          try simp at zx5
          obtain ⟨x5_0_0, x5_0_1, x5_1_0, x5_1_1, x5_2_0, x5_2_1, x5_3_0, x5_3_1, x5_4_0, x5_4_1, x5_5_0, x5_5_1⟩ : xw5.cell? ⟨w.heap.size, 0, none⟩ = some (.int .i64 x) ∧ xw5.cell? ⟨w.heap.size, 1, none⟩ = some (.int .i64 y) ∧ xw5.cell? ⟨w.heap.size + 1, 0, none⟩ = some (.int .i64 0) ∧ xw5.cell? ⟨w.heap.size + 1, 1, none⟩ = some (.int .i64 0) ∧ xw5.cell? ⟨s, 0, none⟩ = some (.int .i64 l1) ∧ xw5.cell? ⟨s, 1, none⟩ = some (.int .i64 u1) ∧ xw5.cell? ⟨xw3.heap.size, 0, none⟩ = some (.int .i64 l2) ∧ xw5.cell? ⟨xw3.heap.size, 1, none⟩ = some (.int .i64 u2) ∧ xw5.cell? ⟨xw4.heap.size, 0, none⟩ = some (.int .i64 0) ∧ xw5.cell? ⟨xw4.heap.size, 1, none⟩ = some (.int .i64 0) ∧ xw5.cell? ⟨xw4.heap.size + 1, 0, none⟩ = some (.int .i64 0) ∧ xw5.cell? ⟨xw4.heap.size + 1, 1, none⟩ = some (.int .i64 0) := by refine ⟨?_, ?_, ?_, ?_, ?_, ?_, ?_, ?_, ?_, ?_, ?_, ?_⟩ <;> (rw [(bcell hbx5).1 _ _ (by first | (simp; done) | (simp; omega) | omega)]; simp [go_sem, World.cell?_alloc_past, *])
          obtain ⟨x5f1, x5f4, x5f5⟩ : (∀ j, xw5.frozen? ⟨w.heap.size + 1, j, none⟩ = false) ∧ (∀ j, xw5.frozen? ⟨xw4.heap.size, j, none⟩ = false) ∧ (∀ j, xw5.frozen? ⟨xw4.heap.size + 1, j, none⟩ = false) := by refine ⟨?_, ?_, ?_⟩ <;> (intro j; rw [(bcell hbx5).2 _ _ (by first | (simp; done) | (simp; omega) | omega)]; simp [go_sem, *])
          obtain ⟨x5o0, x5n0, x5m0, x5t0_0, x5t0_1, x5o1, x5n1, x5m1, x5t1_0, x5t1_1, x5o2, x5n2, x5m2, x5t2_0, x5t2_1, x5o3, x5n3, x5m3, x5t3_0, x5t3_1, x5o4, x5n4, x5m4, x5t4_0, x5t4_1, x5o5, x5n5, x5m5, x5t5_0, x5t5_1⟩ : w.heap.size < xw5.heap.size ∧ xw5.heap.size ≠ w.heap.size ∧ w.heap.size ≠ xw5.heap.size ∧ w.heap.size < xw5.heap.size + 1 ∧ w.heap.size < xw5.heap.size + 1 + 1 ∧ w.heap.size + 1 < xw5.heap.size ∧ xw5.heap.size ≠ w.heap.size + 1 ∧ w.heap.size + 1 ≠ xw5.heap.size ∧ w.heap.size + 1 < xw5.heap.size + 1 ∧ w.heap.size + 1 < xw5.heap.size + 1 + 1 ∧ s < xw5.heap.size ∧ xw5.heap.size ≠ s ∧ s ≠ xw5.heap.size ∧ s < xw5.heap.size + 1 ∧ s < xw5.heap.size + 1 + 1 ∧ xw3.heap.size < xw5.heap.size ∧ xw5.heap.size ≠ xw3.heap.size ∧ xw3.heap.size ≠ xw5.heap.size ∧ xw3.heap.size < xw5.heap.size + 1 ∧ xw3.heap.size < xw5.heap.size + 1 + 1 ∧ xw4.heap.size < xw5.heap.size ∧ xw5.heap.size ≠ xw4.heap.size ∧ xw4.heap.size ≠ xw5.heap.size ∧ xw4.heap.size < xw5.heap.size + 1 ∧ xw4.heap.size < xw5.heap.size + 1 + 1 ∧ xw4.heap.size + 1 < xw5.heap.size ∧ xw5.heap.size ≠ xw4.heap.size + 1 ∧ xw4.heap.size + 1 ≠ xw5.heap.size ∧ xw4.heap.size + 1 < xw5.heap.size + 1 ∧ xw4.heap.size + 1 < xw5.heap.size + 1 + 1 := by refine ⟨?_, ?_, ?_, ?_, ?_, ?_, ?_, ?_, ?_, ?_, ?_, ?_, ?_, ?_, ?_, ?_, ?_, ?_, ?_, ?_, ?_, ?_, ?_, ?_, ?_, ?_, ?_, ?_, ?_, ?_⟩ <;> omega
          have hBx5 : Below w.heap.size w xw5 := (by (repeat (first | (with_reducible refine Below.drew ?_) | (with_reducible refine below_drewN ?_ _) | (with_reducible refine Below.alloc ?_ (by first | omega | (simp; done) | (simp; omega) | (simp at *; omega)) _) | (with_reducible refine Below.setCell ?_ (by first | omega | (simp; done) | (simp; omega) | (simp at *; omega)) _) | (with_reducible exact Below.refl _ _) | (with_reducible assumption) | (with_reducible refine Below.trans ?_ (Below.mono (by assumption) (by first | omega | (simp; done) | (simp; omega) | (simp at *; omega)))))))
          clear hbx5 x4_0_0 x4_0_1 x4_1_0 x4_1_1 x4_2_0 x4_2_1 x4_3_0 x4_3_1 x4f1 x4o0 x4n0 x4m0 x4t0_0 x4t0_1 x4o1 x4n1 x4m1 x4t1_0 x4t1_1 x4o2 x4n2 x4m2 x4t2_0 x4t2_1 x4o3 x4n3 x4m3 x4t3_0 x4t3_1 hBx4
          go_wp2_with fail
          refine hK.out _ _ (by simp [go_sem, World.cell?_alloc_past, *]) (fun hHeld => ?_)
          clear hK K
          try simp only [Act.put, sA, sB, sC]
          refine wpAnyH_ready (rs := [12]) (by kernel_rfl) (by simp) ?_
          refine AllReadyH.cons rfl (fun K hK => ?_) (AllReadyH.nil)
          go_simp
          go_wp2_with fail
          refine hK.out _ _ (by simp [go_sem, World.cell?_alloc_past, *]) (fun hHeld => ?_)
          clear hK K
          try simp only [Act.put, sA, sB, sC]
          refine wpAnyH_ready (rs := [13]) (by kernel_rfl) (by simp) ?_
          refine AllReadyH.cons rfl (fun K hK => ?_) (AllReadyH.nil)
          go_simp
          go_wp2_with fail
          refine hK.out _ _ (by simp [go_sem, World.cell?_alloc_past, *]) (fun hHeld => ?_)
          clear hK K
          try simp only [Act.put, sA, sB, sC]
          refine wpAnyH_done (by kernel_rfl) ?_ _
          go_wp2_with fail
          go_meet
          refine ⟨xw4.heap.size, xw4.heap.size + 1, rfl, rfl, by first | omega | (simp; done) | (simp; omega), by first | omega | (simp; done) | (simp; omega), by first | omega | (simp; done) | (simp; omega), ⟨(by simp [go_sem, World.cell?_alloc_past, *]), (by simp [go_sem, World.cell?_alloc_past, *]), (by simp [go_sem, World.cell?_alloc_past, *]), (by simp [go_sem, World.cell?_alloc_past, *]), (by simp [go_sem, World.cell?_alloc_past, *]), (by simp [go_sem, World.cell?_alloc_past, *])⟩, by intro j; simp [go_sem, *], ?_⟩
          (repeat (first | (with_reducible refine Below.drew ?_) | (with_reducible refine below_drewN ?_ _) | (with_reducible refine Below.alloc ?_ (by first | omega | (simp; done) | (simp; omega) | (simp at *; omega)) _) | (with_reducible refine Below.setCell ?_ (by first | omega | (simp; done) | (simp; omega) | (simp at *; omega)) _) | (with_reducible exact Below.refl _ _) | (with_reducible assumption) | (with_reducible refine Below.trans ?_ (Below.mono (by assumption) (by first | omega | (simp; done) | (simp; omega) | (simp at *; omega))))))
      · skip
        go_simp
        go_wp2_with fail
        refine hK.out _ _ (by simp [go_sem, World.cell?_alloc_past, *]) (fun hHeld => ?_)
        clear hK K
        try simp only [Act.put, sA, sB, sC]
        refine wpAnyH_ready (rs := [9, 10]) (by kernel_rfl) (by simp) ?_
        refine AllReadyH.cons rfl (fun K hK => ?_) (AllReadyH.cons rfl (fun K hK => ?_) (AllReadyH.nil))
        · skip
          go_simp
          refine (amountsAt_any y v l2 u2 Q q2 r2 _ hQ Q0 Q1 bl2 bl2' bu2 bu2' hq2 hr2).mono ?_
          rintro e xw5 ⟨rfl, hbx5⟩
          have zx5 := hbx5.size
          try simp at zx5
          obtain ⟨x5_0_0, x5_0_1, x5_1_0, x5_1_1, x5_2_0, x5_2_1, x5_3_0, x5_3_1, x5_4_0, x5_4_1⟩ : xw5.cell? ⟨w.heap.size, 0, none⟩ = some (.int .i64 x) ∧ xw5.cell? ⟨w.heap.size, 1, none⟩ = some (.int .i64 y) ∧ xw5.cell? ⟨w.heap.size + 1, 0, none⟩ = some (.int .i64 0) ∧ xw5.cell? ⟨w.heap.size + 1, 1, none⟩ = some (.int .i64 0) ∧ xw5.cell? ⟨s, 0, none⟩ = some (.int .i64 l1) ∧ xw5.cell? ⟨s, 1, none⟩ = some (.int .i64 u1) ∧ xw5.cell? ⟨xw3.heap.size, 0, none⟩ = some (.int .i64 l2) ∧ xw5.cell? ⟨xw3.heap.size, 1, none⟩ = some (.int .i64 u2) ∧ xw5.cell? ⟨xw4.heap.size, 0, none⟩ = some (.int .i64 0) ∧ xw5.cell? ⟨xw4.heap.size, 1, none⟩ = some (.int .i64 0) := by refine ⟨?_, ?_, ?_, ?_, ?_, ?_, ?_, ?_, ?_, ?_⟩ <;> (rw [(bcell hbx5).1 _ _ (by first | (simp; done) | (simp; omega) | omega)]; simp [go_sem, World.cell?_alloc_past, *])
          obtain ⟨x5f1, x5f4⟩ : (∀ j, xw5.frozen? ⟨w.heap.size + 1, j, none⟩ = false) ∧ (∀ j, xw5.frozen? ⟨xw4.heap.size, j, none⟩ = false) := by refine ⟨?_, ?_⟩ <;> (intro j; rw [(bcell hbx5).2 _ _ (by first | (simp; done) | (simp; omega) | omega)]; simp [go_sem, *])
          obtain ⟨x5o0, x5n0, x5m0, x5t0_0, x5t0_1, x5o1, x5n1, x5m1, x5t1_0, x5t1_1, x5o2, x5n2, x5m2, x5t2_0, x5t2_1, x5o3, x5n3, x5m3, x5t3_0, x5t3_1, x5o4, x5n4, x5m4, x5t4_0, x5t4_1⟩ : w.heap.size < xw5.heap.size ∧ xw5.heap.size ≠ w.heap.size ∧ w.heap.size ≠ xw5.heap.size ∧ w.heap.size < xw5.heap.size + 1 ∧ w.heap.size < xw5.heap.size + 1 + 1 ∧ w.heap.size + 1 < xw5.heap.size ∧ xw5.heap.size ≠ w.heap.size + 1 ∧ w.heap.size + 1 ≠ xw5.heap.size ∧ w.heap.size + 1 < xw5.heap.size + 1 ∧ w.heap.size + 1 < xw5.heap.size + 1 + 1 ∧ s < xw5.heap.size ∧ xw5.heap.size ≠ s ∧ s ≠ xw5.heap.size ∧ s < xw5.heap.size + 1 ∧ s < xw5.heap.size + 1 + 1 ∧ xw3.heap.size < xw5.heap.size ∧ xw5.heap.size ≠ xw3.heap.size ∧ xw3.heap.size ≠ xw5.heap.size ∧ xw3.heap.size < xw5.heap.size + 1 ∧ xw3.heap.size < xw5.heap.size + 1 + 1 ∧ xw4.heap.size < xw5.heap.size ∧ xw5.heap.size ≠ xw4.heap.size ∧ xw4.heap.size ≠ xw5.heap.size ∧ xw4.heap.size < xw5.heap.size + 1 ∧ xw4.heap.size < xw5.heap.size + 1 + 1 := by refine ⟨?_, ?_, ?_, ?_, ?_, ?_, ?_, ?_, ?_, ?_, ?_, ?_, ?_, ?_, ?_, ?_, ?_, ?_, ?_, ?_, ?_, ?_, ?_, ?_, ?_⟩ <;> omega
          have hBx5 : Below w.heap.size w xw5 := (by (repeat (first | (with_reducible refine Below.drew ?_) | (with_reducible refine below_drewN ?_ _) | (with_reducible refine Below.alloc ?_ (by first | omega | (simp; done) | (simp; omega) | (simp at *; omega)) _) | (with_reducible refine Below.setCell ?_ (by first | omega | (simp; done) | (simp; omega) | (simp at *; omega)) _) | (with_reducible exact Below.refl _ _) | (with_reducible assumption) | (with_reducible refine Below.trans ?_ (Below.mono (by assumption) (by first | omega | (simp; done) | (simp; omega) | (simp at *; omega)))))))
          clear hbx5 x4_0_0 x4_0_1 x4_1_0 x4_1_1 x4_2_0 x4_2_1 x4_3_0 x4_3_1 x4f1 x4o0 x4n0 x4m0 x4t0_0 x4t0_1 x4o1 x4n1 x4m1 x4t1_0 x4t1_1 x4o2 x4n2 x4m2 x4t2_0 x4t2_1 x4o3 x4n3 x4m3 x4t3_0 x4t3_1 hBx4
          go_wp2_with fail
          refine hK.out _ _ (by simp [go_sem, World.cell?_alloc_past, *]) (fun hHeld => ?_)
          clear hK K
          try simp only [Act.put, sA, sB, sC]
          refine wpAnyH_ready (rs := [10]) (by kernel_rfl) (by simp) ?_
          refine AllReadyH.cons rfl (fun K hK => ?_) (AllReadyH.nil)
          go_simp
          go_wp2_with fail
          refine hK.out _ _ (by simp [go_sem, World.cell?_alloc_past, *]) (fun hHeld => ?_)
          clear hK K
          try simp only [Act.put, sA, sB, sC]
          refine wpAnyH_ready (rs := [12]) (by kernel_rfl) (by simp) ?_
          refine AllReadyH.cons rfl (fun K hK => ?_) (AllReadyH.nil)
          go_simp
          go_wp2_with fail
          refine hK.out _ _ (by simp [go_sem, World.cell?_alloc_past, *]) (fun hHeld => ?_)
          clear hK K
          try simp only [Act.put, sA, sB, sC]
          refine wpAnyH_ready (rs := [13]) (by kernel_rfl) (by simp) ?_
          refine AllReadyH.cons rfl (fun K hK => ?_) (AllReadyH.nil)
          go_simp
          go_wp2_with fail
          refine hK.out _ _ (by simp [go_sem, World.cell?_alloc_past, *]) (fun hHeld => ?_)
          clear hK K
          try simp only [Act.put, sA, sB, sC]
          refine wpAnyH_done (by kernel_rfl) ?_ _
          go_wp2_with fail
          go_meet
          refine ⟨xw5.heap.size, xw4.heap.size, rfl, rfl, by first | omega | (simp; done) | (simp; omega), by first | omega | (simp; done) | (simp; omega), by first | omega | (simp; done) | (simp; omega), ⟨(by simp [go_sem, World.cell?_alloc_past, *]), (by simp [go_sem, World.cell?_alloc_past, *]), (by simp [go_sem, World.cell?_alloc_past, *]), (by simp [go_sem, World.cell?_alloc_past, *]), (by simp [go_sem, World.cell?_alloc_past, *]), (by simp [go_sem, World.cell?_alloc_past, *])⟩, by intro j; simp [go_sem, *], ?_⟩
          (repeat (first | (with_reducible refine Below.drew ?_) | (with_reducible refine below_drewN ?_ _) | (with_reducible refine Below.alloc ?_ (by first | omega | (simp; done) | (simp; omega) | (simp at *; omega)) _) | (with_reducible refine Below.setCell ?_ (by first | omega | (simp; done) | (simp; omega) | (simp at *; omega)) _) | (with_reducible exact Below.refl _ _) | (with_reducible assumption) | (with_reducible refine Below.trans ?_ (Below.mono (by assumption) (by first | omega | (simp; done) | (simp; omega) | (simp at *; omega))))))
        · skip
          go_simp
          go_wp2_with fail
          refine hK.out _ _ (by simp [go_sem, World.cell?_alloc_past, *]) (fun hHeld => ?_)
          clear hK K
          try simp only [Act.put, sA, sB, sC]
          refine wpAnyH_ready (rs := [9]) (by kernel_rfl) (by simp) ?_
          refine AllReadyH.cons rfl (fun K hK => ?_) (AllReadyH.nil)
          go_simp
          refine (amountsAt_any y v l2 u2 Q q2 r2 _ hQ Q0 Q1 bl2 bl2' bu2 bu2' hq2 hr2).mono ?_
          rintro e xw5 ⟨rfl, hbx5⟩
          have zx5 := hbx5.size
          try simp at zx5
          obtain ⟨x5_0_0, x5_0_1, x5_1_0, x5_1_1, x5_2_0, x5_2_1, x5_3_0, x5_3_1, x5_4_0, x5_4_1, x5_5_0, x5_5_1⟩ : xw5.cell? ⟨w.heap.size, 0, none⟩ = some (.int .i64 x) ∧ xw5.cell? ⟨w.heap.size, 1, none⟩ = some (.int .i64 y) ∧ xw5.cell? ⟨w.heap.size + 1, 0, none⟩ = some (.int .i64 0) ∧ xw5.cell? ⟨w.heap.size + 1, 1, none⟩ = some (.int .i64 0) ∧ xw5.cell? ⟨s, 0, none⟩ = some (.int .i64 l1) ∧ xw5.cell? ⟨s, 1, none⟩ = some (.int .i64 u1) ∧ xw5.cell? ⟨xw3.heap.size, 0, none⟩ = some (.int .i64 l2) ∧ xw5.cell? ⟨xw3.heap.size, 1, none⟩ = some (.int .i64 u2) ∧ xw5.cell? ⟨xw4.heap.size, 0, none⟩ = some (.int .i64 0) ∧ xw5.cell? ⟨xw4.heap.size, 1, none⟩ = some (.int .i64 0) ∧ xw5.cell? ⟨xw4.heap.size + 1, 0, none⟩ = some (.int .i64 0) ∧ xw5.cell? ⟨xw4.heap.size + 1, 1, none⟩ = some (.int .i64 0) := by refine ⟨?_, ?_, ?_, ?_, ?_, ?_, ?_, ?_, ?_, ?_, ?_, ?_⟩ <;> (rw [(bcell hbx5).1 _ _ (by first | (simp; done) | (simp; omega) | omega)]; simp [go_sem, World.cell?_alloc_past, *])
          obtain ⟨x5f1, x5f4, x5f5⟩ : (∀ j, xw5.frozen? ⟨w.heap.size + 1, j, none⟩ = false) ∧ (∀ j, xw5.frozen? ⟨xw4.heap.size, j, none⟩ = false) ∧ (∀ j, xw5.frozen? ⟨xw4.heap.size + 1, j, none⟩ = false) := by refine ⟨?_, ?_, ?_⟩ <;> (intro j; rw [(bcell hbx5).2 _ _ (by first | (simp; done) | (simp; omega) | omega)]; simp [go_sem, *])
          obtain ⟨x5o0, x5n0, x5m0, x5t0_0, x5t0_1, x5o1, x5n1, x5m1, x5t1_0, x5t1_1, x5o2, x5n2, x5m2, x5t2_0, x5t2_1, x5o3, x5n3, x5m3, x5t3_0, x5t3_1, x5o4, x5n4, x5m4, x5t4_0, x5t4_1, x5o5, x5n5, x5m5, x5t5_0, x5t5_1⟩ : w.heap.size < xw5.heap.size ∧ xw5.heap.size ≠ w.heap.size ∧ w.heap.size ≠ xw5.heap.size ∧ w.heap.size < xw5.heap.size + 1 ∧ w.heap.size < xw5.heap.size + 1 + 1 ∧ w.heap.size + 1 < xw5.heap.size ∧ xw5.heap.size ≠ w.heap.size + 1 ∧ w.heap.size + 1 ≠ xw5.heap.size ∧ w.heap.size + 1 < xw5.heap.size + 1 ∧ w.heap.size + 1 < xw5.heap.size + 1 + 1 ∧ s < xw5.heap.size ∧ xw5.heap.size ≠ s ∧ s ≠ xw5.heap.size ∧ s < xw5.heap.size + 1 ∧ s < xw5.heap.size + 1 + 1 ∧ xw3.heap.size < xw5.heap.size ∧ xw5.heap.size ≠ xw3.heap.size ∧ xw3.heap.size ≠ xw5.heap.size ∧ xw3.heap.size < xw5.heap.size + 1 ∧ xw3.heap.size < xw5.heap.size + 1 + 1 ∧ xw4.heap.size < xw5.heap.size ∧ xw5.heap.size ≠ xw4.heap.size ∧ xw4.heap.size ≠ xw5.heap.size ∧ xw4.heap.size < xw5.heap.size + 1 ∧ xw4.heap.size < xw5.heap.size + 1 + 1 ∧ xw4.heap.size + 1 < xw5.heap.size ∧ xw5.heap.size ≠ xw4.heap.size + 1 ∧ xw4.heap.size + 1 ≠ xw5.heap.size ∧ xw4.heap.size + 1 < xw5.heap.size + 1 ∧ xw4.heap.size + 1 < xw5.heap.size + 1 + 1 := by refine ⟨?_, ?_, ?_, ?_, ?_, ?_, ?_, ?_, ?_, ?_, ?_, ?_, ?_, ?_, ?_, ?_, ?_, ?_, ?_, ?_, ?_, ?_, ?_, ?_, ?_, ?_, ?_, ?_, ?_, ?_⟩ <;> omega
          have hBx5 : Below w.heap.size w xw5 := (by (repeat (first | (with_reducible refine Below.drew ?_) | (with_reducible refine below_drewN ?_ _) | (with_reducible refine Below.alloc ?_ (by first | omega | (simp; done) | (simp; omega) | (simp at *; omega)) _) | (with_reducible refine Below.setCell ?_ (by first | omega | (simp; done) | (simp; omega) | (simp at *; omega)) _) | (with_reducible exact Below.refl _ _) | (with_reducible assumption) | (with_reducible refine Below.trans ?_ (Below.mono (by assumption) (by first | omega | (simp; done) | (simp; omega) | (simp at *; omega)))))))
          clear hbx5 x4_0_0 x4_0_1 x4_1_0 x4_1_1 x4_2_0 x4_2_1 x4_3_0 x4_3_1 x4f1 x4o0 x4n0 x4m0 x4t0_0 x4t0_1 x4o1 x4n1 x4m1 x4t1_0 x4t1_1 x4o2 x4n2 x4m2 x4t2_0 x4t2_1 x4o3 x4n3 x4m3 x4t3_0 x4t3_1 hBx4
          go_wp2_with fail
          refine hK.out _ _ (by simp [go_sem, World.cell?_alloc_past, *]) (fun hHeld => ?_)
          clear hK K
          try simp only [Act.put, sA, sB, sC]
          refine wpAnyH_ready (rs := [12]) (by kernel_rfl) (by simp) ?_
          refine AllReadyH.cons rfl (fun K hK => ?_) (AllReadyH.nil)
          go_simp
          go_wp2_with fail
          refine hK.out _ _ (by simp [go_sem, World.cell?_alloc_past, *]) (fun hHeld => ?_)
          clear hK K
          try simp only [Act.put, sA, sB, sC]
          refine wpAnyH_ready (rs := [13]) (by kernel_rfl) (by simp) ?_
          refine AllReadyH.cons rfl (fun K hK => ?_) (AllReadyH.nil)
          go_simp
          go_wp2_with fail
          refine hK.out _ _ (by simp [go_sem, World.cell?_alloc_past, *]) (fun hHeld => ?_)
          clear hK K
          try simp only [Act.put, sA, sB, sC]
          refine wpAnyH_done (by kernel_rfl) ?_ _
          go_wp2_with fail
          go_meet
          refine ⟨xw4.heap.size + 1, xw4.heap.size, rfl, rfl, by first | omega | (simp; done) | (simp; omega), by first | omega | (simp; done) | (simp; omega), by first | omega | (simp; done) | (simp; omega), ⟨(by simp [go_sem, World.cell?_alloc_past, *]), (by simp [go_sem, World.cell?_alloc_past, *]), (by simp [go_sem, World.cell?_alloc_past, *]), (by simp [go_sem, World.cell?_alloc_past, *]), (by simp [go_sem, World.cell?_alloc_past, *]), (by simp [go_sem, World.cell?_alloc_past, *])⟩, by intro j; simp [go_sem, *], ?_⟩
          (repeat (first | (with_reducible refine Below.drew ?_) | (with_reducible refine below_drewN ?_ _) | (with_reducible refine Below.alloc ?_ (by first | omega | (simp; done) | (simp; omega) | (simp at *; omega)) _) | (with_reducible refine Below.setCell ?_ (by first | omega | (simp; done) | (simp; omega) | (simp at *; omega)) _) | (with_reducible exact Below.refl _ _) | (with_reducible assumption) | (with_reducible refine Below.trans ?_ (Below.mono (by assumption) (by first | omega | (simp; done) | (simp; omega) | (simp at *; omega))))))
    · skip
      go_simp
      go_wp2_with fail
      refine hK.out _ _ (by simp [go_sem, World.cell?_alloc_past, *]) (fun hHeld => ?_)
      clear hK K
      try simp only [Act.put, sA, sB, sC]
      refine wpAnyH_ready (rs := [4, 11]) (by kernel_rfl) (by simp) ?_
      refine AllReadyH.cons rfl (fun K hK => ?_) (AllReadyH.cons rfl (fun K hK => ?_) (AllReadyH.nil))
      · skip
        go_simp
        refine (amountsAt_any x v l1 u1 P q1 r1 _ hP P0 P1 bl1 bl1' bu1 bu1' hq1 hr1).mono ?_
        rintro e xw4 ⟨rfl, hbx4⟩
        have zx4 := hbx4.size
        try simp at zx4
        obtain ⟨x4_0_0, x4_0_1, x4_1_0, x4_1_1, x4_2_0, x4_2_1, x4_3_0, x4_3_1, x4_4_0, x4_4_1⟩ : xw4.cell? ⟨w.heap.size, 0, none⟩ = some (.int .i64 x) ∧ xw4.cell? ⟨w.heap.size, 1, none⟩ = some (.int .i64 y) ∧ xw4.cell? ⟨w.heap.size + 1, 0, none⟩ = some (.int .i64 0) ∧ xw4.cell? ⟨w.heap.size + 1, 1, none⟩ = some (.int .i64 0) ∧ xw4.cell? ⟨s, 0, none⟩ = some (.int .i64 l1) ∧ xw4.cell? ⟨s, 1, none⟩ = some (.int .i64 u1) ∧ xw4.cell? ⟨xw3.heap.size, 0, none⟩ = some (.int .i64 l2) ∧ xw4.cell? ⟨xw3.heap.size, 1, none⟩ = some (.int .i64 u2) ∧ xw4.cell? ⟨xw3.heap.size + 1 + 1, 0, none⟩ = some (.int .i64 0) ∧ xw4.cell? ⟨xw3.heap.size + 1 + 1, 1, none⟩ = some (.int .i64 0) := by refine ⟨?_, ?_, ?_, ?_, ?_, ?_, ?_, ?_, ?_, ?_⟩ <;> (rw [(bcell hbx4).1 _ _ (by first | (simp; done) | (simp; omega) | omega)]; simp [go_sem, World.cell?_alloc_past, *])
        obtain ⟨x4f1, x4f4⟩ : (∀ j, xw4.frozen? ⟨w.heap.size + 1, j, none⟩ = false) ∧ (∀ j, xw4.frozen? ⟨xw3.heap.size + 1 + 1, j, none⟩ = false) := by refine ⟨?_, ?_⟩ <;> (intro j; rw [(bcell hbx4).2 _ _ (by first | (simp; done) | (simp; omega) | omega)]; simp [go_sem, *])
        obtain ⟨x4o0, x4n0, x4m0, x4t0_0, x4t0_1, x4o1, x4n1, x4m1, x4t1_0, x4t1_1, x4o2, x4n2, x4m2, x4t2_0, x4t2_1, x4o3, x4n3, x4m3, x4t3_0, x4t3_1, x4o4, x4n4, x4m4, x4t4_0, x4t4_1⟩ : w.heap.size < xw4.heap.size ∧ xw4.heap.size ≠ w.heap.size ∧ w.heap.size ≠ xw4.heap.size ∧ w.heap.size < xw4.heap.size + 1 ∧ w.heap.size < xw4.heap.size + 1 + 1 ∧ w.heap.size + 1 < xw4.heap.size ∧ xw4.heap.size ≠ w.heap.size + 1 ∧ w.heap.size + 1 ≠ xw4.heap.size ∧ w.heap.size + 1 < xw4.heap.size + 1 ∧ w.heap.size + 1 < xw4.heap.size + 1 + 1 ∧ s < xw4.heap.size ∧ xw4.heap.size ≠ s ∧ s ≠ xw4.heap.size ∧ s < xw4.heap.size + 1 ∧ s < xw4.heap.size + 1 + 1 ∧ xw3.heap.size < xw4.heap.size ∧ xw4.heap.size ≠ xw3.heap.size ∧ xw3.heap.size ≠ xw4.heap.size ∧ xw3.heap.size < xw4.heap.size + 1 ∧ xw3.heap.size < xw4.heap.size + 1 + 1 ∧ xw3.heap.size + 1 + 1 < xw4.heap.size ∧ xw4.heap.size ≠ xw3.heap.size + 1 + 1 ∧ xw3.heap.size + 1 + 1 ≠ xw4.heap.size ∧ xw3.heap.size + 1 + 1 < xw4.heap.size + 1 ∧ xw3.heap.size + 1 + 1 < xw4.heap.size + 1 + 1 := by refine ⟨?_, ?_, ?_, ?_, ?_, ?_, ?_, ?_, ?_, ?_, ?_, ?_, ?_, ?_, ?_, ?_, ?_, ?_, ?_, ?_, ?_, ?_, ?_, ?_, ?_⟩ <;> omega
        have hBx4 : Below w.heap.size w xw4 := (by (repeat (first | (with_reducible refine Below.drew ?_) | (with_reducible refine below_drewN ?_ _) | (with_reducible refine Below.alloc ?_ (by first | omega | (simp; done) | (simp; omega) | (simp at *; omega)) _) | (with_reducible refine Below.setCell ?_ (by first | omega | (simp; done) | (simp; omega) | (simp at *; omega)) _) | (with_reducible exact Below.refl _ _) | (with_reducible assumption) | (with_reducible refine Below.trans ?_ (Below.mono (by assumption) (by first | omega | (simp; done) | (simp; omega) | (simp at *; omega)))))))
        clear hbx4 x3_0_0 x3_0_1 x3_1_0 x3_1_1 x3_2_0 x3_2_1 x3f1 x3o0 x3n0 x3m0 x3t0_0 x3t0_1 x3o1 x3n1 x3m1 x3t1_0 x3t1_1 x3o2 x3n2 x3m2 x3t2_0 x3t2_1 hBx3
        go_wp2_with fail
        refine hK.out _ _ (by simp [go_sem, World.cell?_alloc_past, *]) (fun hHeld => ?_)
        clear hK K
        try simp only [Act.put, sA, sB, sC]
        refine wpAnyH_ready (rs := [9, 11]) (by kernel_rfl) (by simp) ?_
        refine AllReadyH.cons rfl (fun K hK => ?_) (AllReadyH.cons rfl (fun K hK => ?_) (AllReadyH.nil))
        · skip
          go_simp
          refine (amountsAt_any y v l2 u2 Q q2 r2 _ hQ Q0 Q1 bl2 bl2' bu2 bu2' hq2 hr2).mono ?_
          rintro e xw5 ⟨rfl, hbx5⟩
          have zx5 := hbx5.size
          try simp at zx5
          obtain ⟨x5_0_0, x5_0_1, x5_1_0, x5_1_1, x5_2_0, x5_2_1, x5_3_0, x5_3_1, x5_4_0, x5_4_1⟩ : xw5.cell? ⟨w.heap.size, 0, none⟩ = some (.int .i64 x) ∧ xw5.cell? ⟨w.heap.size, 1, none⟩ = some (.int .i64 y) ∧ xw5.cell? ⟨w.heap.size + 1, 0, none⟩ = some (.int .i64 0) ∧ xw5.cell? ⟨w.heap.size + 1, 1, none⟩ = some (.int .i64 0) ∧ xw5.cell? ⟨s, 0, none⟩ = some (.int .i64 l1) ∧ xw5.cell? ⟨s, 1, none⟩ = some (.int .i64 u1) ∧ xw5.cell? ⟨xw3.heap.size, 0, none⟩ = some (.int .i64 l2) ∧ xw5.cell? ⟨xw3.heap.size, 1, none⟩ = some (.int .i64 u2) ∧ xw5.cell? ⟨xw3.heap.size + 1 + 1, 0, none⟩ = some (.int .i64 0) ∧ xw5.cell? ⟨xw3.heap.size + 1 + 1, 1, none⟩ = some (.int .i64 0) := by refine ⟨?_, ?_, ?_, ?_, ?_, ?_, ?_, ?_, ?_, ?_⟩ <;> (rw [(bcell hbx5).1 _ _ (by first | (simp; done) | (simp; omega) | omega)]; simp [go_sem, World.cell?_alloc_past, *])
          obtain ⟨x5f1, x5f4⟩ : (∀ j, xw5.frozen? ⟨w.heap.size + 1, j, none⟩ = false) ∧ (∀ j, xw5.frozen? ⟨xw3.heap.size + 1 + 1, j, none⟩ = false) := by refine ⟨?_, ?_⟩ <;> (intro j; rw [(bcell hbx5).2 _ _ (by first | (simp; done) | (simp; omega) | omega)]; simp [go_sem, *])
          obtain ⟨x5o0, x5n0, x5m0, x5t0_0, x5t0_1, x5o1, x5n1, x5m1, x5t1_0, x5t1_1, x5o2, x5n2, x5m2, x5t2_0, x5t2_1, x5o3, x5n3, x5m3, x5t3_0, x5t3_1, x5o4, x5n4, x5m4, x5t4_0, x5t4_1⟩ : w.heap.size < xw5.heap.size ∧ xw5.heap.size ≠ w.heap.size ∧ w.heap.size ≠ xw5.heap.size ∧ w.heap.size < xw5.heap.size + 1 ∧ w.heap.size < xw5.heap.size + 1 + 1 ∧ w.heap.size + 1 < xw5.heap.size ∧ xw5.heap.size ≠ w.heap.size + 1 ∧ w.heap.size + 1 ≠ xw5.heap.size ∧ w.heap.size + 1 < xw5.heap.size + 1 ∧ w.heap.size + 1 < xw5.heap.size + 1 + 1 ∧ s < xw5.heap.size ∧ xw5.heap.size ≠ s ∧ s ≠ xw5.heap.size ∧ s < xw5.heap.size + 1 ∧ s < xw5.heap.size + 1 + 1 ∧ xw3.heap.size < xw5.heap.size ∧ xw5.heap.size ≠ xw3.heap.size ∧ xw3.heap.size ≠ xw5.heap.size ∧ xw3.heap.size < xw5.heap.size + 1 ∧ xw3.heap.size < xw5.heap.size + 1 + 1 ∧ xw3.heap.size + 1 + 1 < xw5.heap.size ∧ xw5.heap.size ≠ xw3.heap.size + 1 + 1 ∧ xw3.heap.size + 1 + 1 ≠ xw5.heap.size ∧ xw3.heap.size + 1 + 1 < xw5.heap.size + 1 ∧ xw3.heap.size + 1 + 1 < xw5.heap.size + 1 + 1 := by refine ⟨?_, ?_, ?_, ?_, ?_, ?_, ?_, ?_, ?_, ?_, ?_, ?_, ?_, ?_, ?_, ?_, ?_, ?_, ?_, ?_, ?_, ?_, ?_, ?_, ?_⟩ <;> omega
          have hBx5 : Below w.heap.size w xw5 := (by (repeat (first | (with_reducible refine Below.drew ?_) | (with_reducible refine below_drewN ?_ _) | (with_reducible refine Below.alloc ?_ (by first | omega | (simp; done) | (simp; omega) | (simp at *; omega)) _) | (with_reducible refine Below.setCell ?_ (by first | omega | (simp; done) | (simp; omega) | (simp at *; omega)) _) | (with_reducible exact Below.refl _ _) | (with_reducible assumption) | (with_reducible refine Below.trans ?_ (Below.mono (by assumption) (by first | omega | (simp; done) | (simp; omega) | (simp at *; omega)))))))
          clear hbx5 x4_0_0 x4_0_1 x4_1_0 x4_1_1 x4_2_0 x4_2_1 x4_3_0 x4_3_1 x4_4_0 x4_4_1 x4f1 x4f4 x4o0 x4n0 x4m0 x4t0_0 x4t0_1 x4o1 x4n1 x4m1 x4t1_0 x4t1_1 x4o2 x4n2 x4m2 x4t2_0 x4t2_1 x4o3 x4n3 x4m3 x4t3_0 x4t3_1 x4o4 x4n4 x4m4 x4t4_0 x4t4_1 hBx4
          go_wp2_with fail
          refine hK.out _ _ (by simp [go_sem, World.cell?_alloc_past, *]) (fun hHeld => ?_)
          clear hK K
          try simp only [Act.put, sA, sB, sC]
          refine wpAnyH_ready (rs := [11]) (by kernel_rfl) (by simp) ?_
          refine AllReadyH.cons rfl (fun K hK => ?_) (AllReadyH.nil)
          go_simp
          go_wp2_with fail
          refine hK.out _ _ (by simp [go_sem, World.cell?_alloc_past, *]) (fun hHeld => ?_)
          clear hK K
          try simp only [Act.put, sA, sB, sC]
          refine wpAnyH_ready (rs := [12]) (by kernel_rfl) (by simp) ?_
          refine AllReadyH.cons rfl (fun K hK => ?_) (AllReadyH.nil)
          go_simp
          go_wp2_with fail
          refine hK.out _ _ (by simp [go_sem, World.cell?_alloc_past, *]) (fun hHeld => ?_)
          clear hK K
          try simp only [Act.put, sA, sB, sC]
          refine wpAnyH_ready (rs := [13]) (by kernel_rfl) (by simp) ?_
          refine AllReadyH.cons rfl (fun K hK => ?_) (AllReadyH.nil)
          go_simp
          go_wp2_with fail
          refine hK.out _ _ (by simp [go_sem, World.cell?_alloc_past, *]) (fun hHeld => ?_)
          clear hK K
          try simp only [Act.put, sA, sB, sC]
          refine wpAnyH_done (by kernel_rfl) ?_ _
          go_wp2_with fail
          go_meet
          refine ⟨xw3.heap.size + 1 + 1, xw5.heap.size, rfl, rfl, by first | omega | (simp; done) | (simp; omega), by first | omega | (simp; done) | (simp; omega), by first | omega | (simp; done) | (simp; omega), ⟨(by simp [go_sem, World.cell?_alloc_past, *]), (by simp [go_sem, World.cell?_alloc_past, *]), (by simp [go_sem, World.cell?_alloc_past, *]), (by simp [go_sem, World.cell?_alloc_past, *]), (by simp [go_sem, World.cell?_alloc_past, *]), (by simp [go_sem, World.cell?_alloc_past, *])⟩, by intro j; simp [go_sem, *], ?_⟩
          (repeat (first | (with_reducible refine Below.drew ?_) | (with_reducible refine below_drewN ?_ _) | (with_reducible refine Below.alloc ?_ (by first | omega | (simp; done) | (simp; omega) | (simp at *; omega)) _) | (with_reducible refine Below.setCell ?_ (by first | omega | (simp; done) | (simp; omega) | (simp at *; omega)) _) | (with_reducible exact Below.refl _ _) | (with_reducible assumption) | (with_reducible refine Below.trans ?_ (Below.mono (by assumption) (by first | omega | (simp; done) | (simp; omega) | (simp at *; omega))))))
        · skip
          go_simp
          go_wp2_with fail
          refine hK.out _ _ (by simp [go_sem, World.cell?_alloc_past, *]) (fun hHeld => ?_)
          clear hK K
          try simp only [Act.put, sA, sB, sC]
          refine wpAnyH_ready (rs := [9]) (by kernel_rfl) (by simp) ?_
          refine AllReadyH.cons rfl (fun K hK => ?_) (AllReadyH.nil)
          go_simp
          refine (amountsAt_any y v l2 u2 Q q2 r2 _ hQ Q0 Q1 bl2 bl2' bu2 bu2' hq2 hr2).mono ?_
          rintro e xw5 ⟨rfl, hbx5⟩
          have zx5 := hbx5.size
          try simp at zx5
          obtain ⟨x5_0_0, x5_0_1, x5_1_0, x5_1_1, x5_2_0, x5_2_1, x5_3_0, x5_3_1, x5_4_0, x5_4_1, x5_5_0, x5_5_1⟩ : xw5.cell? ⟨w.heap.size, 0, none⟩ = some (.int .i64 x) ∧ xw5.cell? ⟨w.heap.size, 1, none⟩ = some (.int .i64 y) ∧ xw5.cell? ⟨w.heap.size + 1, 0, none⟩ = some (.int .i64 0) ∧ xw5.cell? ⟨w.heap.size + 1, 1, none⟩ = some (.int .i64 0) ∧ xw5.cell? ⟨s, 0, none⟩ = some (.int .i64 l1) ∧ xw5.cell? ⟨s, 1, none⟩ = some (.int .i64 u1) ∧ xw5.cell? ⟨xw3.heap.size, 0, none⟩ = some (.int .i64 l2) ∧ xw5.cell? ⟨xw3.heap.size, 1, none⟩ = some (.int .i64 u2) ∧ xw5.cell? ⟨xw3.heap.size + 1 + 1, 0, none⟩ = some (.int .i64 0) ∧ xw5.cell? ⟨xw3.heap.size + 1 + 1, 1, none⟩ = some (.int .i64 0) ∧ xw5.cell? ⟨xw4.heap.size, 0, none⟩ = some (.int .i64 0) ∧ xw5.cell? ⟨xw4.heap.size, 1, none⟩ = some (.int .i64 0) := by refine ⟨?_, ?_, ?_, ?_, ?_, ?_, ?_, ?_, ?_, ?_, ?_, ?_⟩ <;> (rw [(bcell hbx5).1 _ _ (by first | (simp; done) | (simp; omega) | omega)]; simp [go_sem, World.cell?_alloc_past, *])
          obtain ⟨x5f1, x5f4, x5f5⟩ : (∀ j, xw5.frozen? ⟨w.heap.size + 1, j, none⟩ = false) ∧ (∀ j, xw5.frozen? ⟨xw3.heap.size + 1 + 1, j, none⟩ = false) ∧ (∀ j, xw5.frozen? ⟨xw4.heap.size, j, none⟩ = false) := by refine ⟨?_, ?_, ?_⟩ <;> (intro j; rw [(bcell hbx5).2 _ _ (by first | (simp; done) | (simp; omega) | omega)]; simp [go_sem, *])
          obtain ⟨x5o0, x5n0, x5m0, x5t0_0, x5t0_1, x5o1, x5n1, x5m1, x5t1_0, x5t1_1, x5o2, x5n2, x5m2, x5t2_0, x5t2_1, x5o3, x5n3, x5m3, x5t3_0, x5t3_1, x5o4, x5n4, x5m4, x5t4_0, x5t4_1, x5o5, x5n5, x5m5, x5t5_0, x5t5_1⟩ : w.heap.size < xw5.heap.size ∧ xw5.heap.size ≠ w.heap.size ∧ w.heap.size ≠ xw5.heap.size ∧ w.heap.size < xw5.heap.size + 1 ∧ w.heap.size < xw5.heap.size + 1 + 1 ∧ w.heap.size + 1 < xw5.heap.size ∧ xw5.heap.size ≠ w.heap.size + 1 ∧ w.heap.size + 1 ≠ xw5.heap.size ∧ w.heap.size + 1 < xw5.heap.size + 1 ∧ w.heap.size + 1 < xw5.heap.size + 1 + 1 ∧ s < xw5.heap.size ∧ xw5.heap.size ≠ s ∧ s ≠ xw5.heap.size ∧ s < xw5.heap.size + 1 ∧ s < xw5.heap.size + 1 + 1 ∧ xw3.heap.size < xw5.heap.size ∧ xw5.heap.size ≠ xw3.heap.size ∧ xw3.heap.size ≠ xw5.heap.size ∧ xw3.heap.size < xw5.heap.size + 1 ∧ xw3.heap.size < xw5.heap.size + 1 + 1 ∧ xw3.heap.size + 1 + 1 < xw5.heap.size ∧ xw5.heap.size ≠ xw3.heap.size + 1 + 1 ∧ xw3.heap.size + 1 + 1 ≠ xw5.heap.size ∧ xw3.heap.size + 1 + 1 < xw5.heap.size + 1 ∧ xw3.heap.size + 1 + 1 < xw5.heap.size + 1 + 1 ∧ xw4.heap.size < xw5.heap.size ∧ xw5.heap.size ≠ xw4.heap.size ∧ xw4.heap.size ≠ xw5.heap.size ∧ xw4.heap.size < xw5.heap.size + 1 ∧ xw4.heap.size < xw5.heap.size + 1 + 1 := by refine ⟨?_, ?_, ?_, ?_, ?_, ?_, ?_, ?_, ?_, ?_, ?_, ?_, ?_, ?_, ?_, ?_, ?_, ?_, ?_, ?_, ?_, ?_, ?_, ?_, ?_, ?_, ?_, ?_, ?_, ?_⟩ <;> omega
          have hBx5 : Below w.heap.size w xw5 := (by (repeat (first | (with_reducible refine Below.drew ?_) | (with_reducible refine below_drewN ?_ _) | (with_reducible refine Below.alloc ?_ (by first | omega | (simp; done) | (simp; omega) | (simp at *; omega)) _) | (with_reducible refine Below.setCell ?_ (by first | omega | (simp; done) | (simp; omega) | (simp at *; omega)) _) | (with_reducible exact Below.refl _ _) | (with_reducible assumption) | (with_reducible refine Below.trans ?_ (Below.mono (by assumption) (by first | omega | (simp; done) | (simp; omega) | (simp at *; omega)))))))
          clear hbx5 x4_0_0 x4_0_1 x4_1_0 x4_1_1 x4_2_0 x4_2_1 x4_3_0 x4_3_1 x4_4_0 x4_4_1 x4f1 x4f4 x4o0 x4n0 x4m0 x4t0_0 x4t0_1 x4o1 x4n1 x4m1 x4t1_0 x4t1_1 x4o2 x4n2 x4m2 x4t2_0 x4t2_1 x4o3 x4n3 x4m3 x4t3_0 x4t3_1 x4o4 x4n4 x4m4 x4t4_0 x4t4_1 hBx4
          go_wp2_with fail
          refine hK.out _ _ (by simp [go_sem, World.cell?_alloc_past, *]) (fun hHeld => ?_)
          clear hK K
          try simp only [Act.put, sA, sB, sC]
          refine wpAnyH_ready (rs := [12]) (by kernel_rfl) (by simp) ?_
          refine AllReadyH.cons rfl (fun K hK => ?_) (AllReadyH.nil)
          go_simp
          go_wp2_with fail
          refine hK.out _ _ (by simp [go_sem, World.cell?_alloc_past, *]) (fun hHeld => ?_)
          clear hK K
          try simp only [Act.put, sA, sB, sC]
          refine wpAnyH_ready (rs := [13]) (by kernel_rfl) (by simp) ?_
          refine AllReadyH.cons rfl (fun K hK => ?_) (AllReadyH.nil)
          go_simp
          go_wp2_with fail
          refine hK.out _ _ (by simp [go_sem, World.cell?_alloc_past, *]) (fun hHeld => ?_)
          clear hK K
          try simp only [Act.put, sA, sB, sC]
          refine wpAnyH_done (by kernel_rfl) ?_ _
          go_wp2_with fail
          go_meet
          refine ⟨xw3.heap.size + 1 + 1, xw4.heap.size, rfl, rfl, by first | omega | (simp; done) | (simp; omega), by first | omega | (simp; done) | (simp; omega), by first | omega | (simp; done) | (simp; omega), ⟨(by simp [go_sem, World.cell?_alloc_past, *]), (by simp [go_sem, World.cell?_alloc_past, *]), (by simp [go_sem, World.cell?_alloc_past, *]), (by simp [go_sem, World.cell?_alloc_past, *]), (by simp [go_sem, World.cell?_alloc_past, *]), (by simp [go_sem, World.cell?_alloc_past, *])⟩, by intro j; simp [go_sem, *], ?_⟩
          (repeat (first | (with_reducible refine Below.drew ?_) | (with_reducible refine below_drewN ?_ _) | (with_reducible refine Below.alloc ?_ (by first | omega | (simp; done) | (simp; omega) | (simp at *; omega)) _) | (with_reducible refine Below.setCell ?_ (by first | omega | (simp; done) | (simp; omega) | (simp at *; omega)) _) | (with_reducible exact Below.refl _ _) | (with_reducible assumption) | (with_reducible refine Below.trans ?_ (Below.mono (by assumption) (by first | omega | (simp; done) | (simp; omega) | (simp at *; omega))))))
      · skip
        go_simp
        go_wp2_with fail
        refine hK.out _ _ (by simp [go_sem, World.cell?_alloc_past, *]) (fun hHeld => ?_)
        clear hK K
        try simp only [Act.put, sA, sB, sC]
        refine wpAnyH_ready (rs := [4]) (by kernel_rfl) (by simp) ?_
        refine AllReadyH.cons rfl (fun K hK => ?_) (AllReadyH.nil)
        go_simp
        refine (amountsAt_any x v l1 u1 P q1 r1 _ hP P0 P1 bl1 bl1' bu1 bu1' hq1 hr1).mono ?_
        rintro e xw4 ⟨rfl, hbx4⟩
        have zx4 := hbx4.size
        try simp at zx4
        obtain ⟨x4_0_0, x4_0_1, x4_1_0, x4_1_1, x4_2_0, x4_2_1, x4_3_0, x4_3_1, x4_4_0, x4_4_1, x4_5_0, x4_5_1⟩ : xw4.cell? ⟨w.heap.size, 0, none⟩ = some (.int .i64 x) ∧ xw4.cell? ⟨w.heap.size, 1, none⟩ = some (.int .i64 y) ∧ xw4.cell? ⟨w.heap.size + 1, 0, none⟩ = some (.int .i64 0) ∧ xw4.cell? ⟨w.heap.size + 1, 1, none⟩ = some (.int .i64 0) ∧ xw4.cell? ⟨s, 0, none⟩ = some (.int .i64 l1) ∧ xw4.cell? ⟨s, 1, none⟩ = some (.int .i64 u1) ∧ xw4.cell? ⟨xw3.heap.size, 0, none⟩ = some (.int .i64 l2) ∧ xw4.cell? ⟨xw3.heap.size, 1, none⟩ = some (.int .i64 u2) ∧ xw4.cell? ⟨xw3.heap.size + 1 + 1, 0, none⟩ = some (.int .i64 0) ∧ xw4.cell? ⟨xw3.heap.size + 1 + 1, 1, none⟩ = some (.int .i64 0) ∧ xw4.cell? ⟨xw3.heap.size + 1 + 1 + 1, 0, none⟩ = some (.int .i64 0) ∧ xw4.cell? ⟨xw3.heap.size + 1 + 1 + 1, 1, none⟩ = some (.int .i64 0) := by refine ⟨?_, ?_, ?_, ?_, ?_, ?_, ?_, ?_, ?_, ?_, ?_, ?_⟩ <;> (rw [(bcell hbx4).1 _ _ (by first | (simp; done) | (simp; omega) | omega)]; simp [go_sem, World.cell?_alloc_past, *])
        obtain ⟨x4f1, x4f4, x4f5⟩ : (∀ j, xw4.frozen? ⟨w.heap.size + 1, j, none⟩ = false) ∧ (∀ j, xw4.frozen? ⟨xw3.heap.size + 1 + 1, j, none⟩ = false) ∧ (∀ j, xw4.frozen? ⟨xw3.heap.size + 1 + 1 + 1, j, none⟩ = false) := by refine ⟨?_, ?_, ?_⟩ <;> (intro j; rw [(bcell hbx4).2 _ _ (by first | (simp; done) | (simp; omega) | omega)]; simp [go_sem, *])
        obtain ⟨x4o0, x4n0, x4m0, x4t0_0, x4t0_1, x4o1, x4n1, x4m1, x4t1_0, x4t1_1, x4o2, x4n2, x4m2, x4t2_0, x4t2_1, x4o3, x4n3, x4m3, x4t3_0, x4t3_1, x4o4, x4n4, x4m4, x4t4_0, x4t4_1, x4o5, x4n5, x4m5, x4t5_0, x4t5_1⟩ : w.heap.size < xw4.heap.size ∧ xw4.heap.size ≠ w.heap.size ∧ w.heap.size ≠ xw4.heap.size ∧ w.heap.size < xw4.heap.size + 1 ∧ w.heap.size < xw4.heap.size + 1 + 1 ∧ w.heap.size + 1 < xw4.heap.size ∧ xw4.heap.size ≠ w.heap.size + 1 ∧ w.heap.size + 1 ≠ xw4.heap.size ∧ w.heap.size + 1 < xw4.heap.size + 1 ∧ w.heap.size + 1 < xw4.heap.size + 1 + 1 ∧ s < xw4.heap.size ∧ xw4.heap.size ≠ s ∧ s ≠ xw4.heap.size ∧ s < xw4.heap.size + 1 ∧ s < xw4.heap.size + 1 + 1 ∧ xw3.heap.size < xw4.heap.size ∧ xw4.heap.size ≠ xw3.heap.size ∧ xw3.heap.size ≠ xw4.heap.size ∧ xw3.heap.size < xw4.heap.size + 1 ∧ xw3.heap.size < xw4.heap.size + 1 + 1 ∧ xw3.heap.size + 1 + 1 < xw4.heap.size ∧ xw4.heap.size ≠ xw3.heap.size + 1 + 1 ∧ xw3.heap.size + 1 + 1 ≠ xw4.heap.size ∧ xw3.heap.size + 1 + 1 < xw4.heap.size + 1 ∧ xw3.heap.size + 1 + 1 < xw4.heap.size + 1 + 1 ∧ xw3.heap.size + 1 + 1 + 1 < xw4.heap.size ∧ xw4.heap.size ≠ xw3.heap.size + 1 + 1 + 1 ∧ xw3.heap.size + 1 + 1 + 1 ≠ xw4.heap.size ∧ xw3.heap.size + 1 + 1 + 1 < xw4.heap.size + 1 ∧ xw3.heap.size + 1 + 1 + 1 < xw4.heap.size + 1 + 1 := by refine ⟨?_, ?_, ?_, ?_, ?_, ?_, ?_, ?_, ?_, ?_, ?_, ?_, ?_, ?_, ?_, ?_, ?_, ?_, ?_, ?_, ?_, ?_, ?_, ?_, ?_, ?_, ?_, ?_, ?_, ?_⟩ <;> omega
        have hBx4 : Below w.heap.size w xw4 := (by (repeat (first | (with_reducible refine Below.drew ?_) | (with_reducible refine below_drewN ?_ _) | (with_reducible refine Below.alloc ?_ (by first | omega | (simp; done) | (simp; omega) | (simp at *; omega)) _) | (with_reducible refine Below.setCell ?_ (by first | omega | (simp; done) | (simp; omega) | (simp at *; omega)) _) | (with_reducible exact Below.refl _ _) | (with_reducible assumption) | (with_reducible refine Below.trans ?_ (Below.mono (by assumption) (by first | omega | (simp; done) | (simp; omega) | (simp at *; omega)))))))
        clear hbx4 x3_0_0 x3_0_1 x3_1_0 x3_1_1 x3_2_0 x3_2_1 x3f1 x3o0 x3n0 x3m0 x3t0_0 x3t0_1 x3o1 x3n1 x3m1 x3t1_0 x3t1_1 x3o2 x3n2 x3m2 x3t2_0 x3t2_1 hBx3
        go_wp2_with fail
        refine hK.out _ _ (by simp [go_sem, World.cell?_alloc_past, *]) (fun hHeld => ?_)
        clear hK K
        try simp only [Act.put, sA, sB, sC]
        refine wpAnyH_ready (rs := [9]) (by kernel_rfl) (by simp) ?_
        refine AllReadyH.cons rfl (fun K hK => ?_) (AllReadyH.nil)
        go_simp
        refine (amountsAt_any y v l2 u2 Q q2 r2 _ hQ Q0 Q1 bl2 bl2' bu2 bu2' hq2 hr2).mono ?_
        rintro e xw5 ⟨rfl, hbx5⟩
        have zx5 := hbx5.size
        try simp at zx5
        obtain ⟨x5_0_0, x5_0_1, x5_1_0, x5_1_1, x5_2_0, x5_2_1, x5_3_0, x5_3_1, x5_4_0, x5_4_1, x5_5_0, x5_5_1⟩ : xw5.cell? ⟨w.heap.size, 0, none⟩ = some (.int .i64 x) ∧ xw5.cell? ⟨w.heap.size, 1, none⟩ = some (.int .i64 y) ∧ xw5.cell? ⟨w.heap.size + 1, 0, none⟩ = some (.int .i64 0) ∧ xw5.cell? ⟨w.heap.size + 1, 1, none⟩ = some (.int .i64 0) ∧ xw5.cell? ⟨s, 0, none⟩ = some (.int .i64 l1) ∧ xw5.cell? ⟨s, 1, none⟩ = some (.int .i64 u1) ∧ xw5.cell? ⟨xw3.heap.size, 0, none⟩ = some (.int .i64 l2) ∧ xw5.cell? ⟨xw3.heap.size, 1, none⟩ = some (.int .i64 u2) ∧ xw5.cell? ⟨xw3.heap.size + 1 + 1, 0, none⟩ = some (.int .i64 0) ∧ xw5.cell? ⟨xw3.heap.size + 1 + 1, 1, none⟩ = some (.int .i64 0) ∧ xw5.cell? ⟨xw3.heap.size + 1 + 1 + 1, 0, none⟩ = some (.int .i64 0) ∧ xw5.cell? ⟨xw3.heap.size + 1 + 1 + 1, 1, none⟩ = some (.int .i64 0) := by refine ⟨?_, ?_, ?_, ?_, ?_, ?_, ?_, ?_, ?_, ?_, ?_, ?_⟩ <;> (rw [(bcell hbx5).1 _ _ (by first | (simp; done) | (simp; omega) | omega)]; simp [go_sem, World.cell?_alloc_past, *])
        obtain ⟨x5f1, x5f4, x5f5⟩ : (∀ j, xw5.frozen? ⟨w.heap.size + 1, j, none⟩ = false) ∧ (∀ j, xw5.frozen? ⟨xw3.heap.size + 1 + 1, j, none⟩ = false) ∧ (∀ j, xw5.frozen? ⟨xw3.heap.size + 1 + 1 + 1, j, none⟩ = false) := by refine ⟨?_, ?_, ?_⟩ <;> (intro j; rw [(bcell hbx5).2 _ _ (by first | (simp; done) | (simp; omega) | omega)]; simp [go_sem, *])
        obtain ⟨x5o0, x5n0, x5m0, x5t0_0, x5t0_1, x5o1, x5n1, x5m1, x5t1_0, x5t1_1, x5o2, x5n2, x5m2, x5t2_0, x5t2_1, x5o3, x5n3, x5m3, x5t3_0, x5t3_1, x5o4, x5n4, x5m4, x5t4_0, x5t4_1, x5o5, x5n5, x5m5, x5t5_0, x5t5_1⟩ : w.heap.size < xw5.heap.size ∧ xw5.heap.size ≠ w.heap.size ∧ w.heap.size ≠ xw5.heap.size ∧ w.heap.size < xw5.heap.size + 1 ∧ w.heap.size < xw5.heap.size + 1 + 1 ∧ w.heap.size + 1 < xw5.heap.size ∧ xw5.heap.size ≠ w.heap.size + 1 ∧ w.heap.size + 1 ≠ xw5.heap.size ∧ w.heap.size + 1 < xw5.heap.size + 1 ∧ w.heap.size + 1 < xw5.heap.size + 1 + 1 ∧ s < xw5.heap.size ∧ xw5.heap.size ≠ s ∧ s ≠ xw5.heap.size ∧ s < xw5.heap.size + 1 ∧ s < xw5.heap.size + 1 + 1 ∧ xw3.heap.size < xw5.heap.size ∧ xw5.heap.size ≠ xw3.heap.size ∧ xw3.heap.size ≠ xw5.heap.size ∧ xw3.heap.size < xw5.heap.size + 1 ∧ xw3.heap.size < xw5.heap.size + 1 + 1 ∧ xw3.heap.size + 1 + 1 < xw5.heap.size ∧ xw5.heap.size ≠ xw3.heap.size + 1 + 1 ∧ xw3.heap.size + 1 + 1 ≠ xw5.heap.size ∧ xw3.heap.size + 1 + 1 < xw5.heap.size + 1 ∧ xw3.heap.size + 1 + 1 < xw5.heap.size + 1 + 1 ∧ xw3.heap.size + 1 + 1 + 1 < xw5.heap.size ∧ xw5.heap.size ≠ xw3.heap.size + 1 + 1 + 1 ∧ xw3.heap.size + 1 + 1 + 1 ≠ xw5.heap.size ∧ xw3.heap.size + 1 + 1 + 1 < xw5.heap.size + 1 ∧ xw3.heap.size + 1 + 1 + 1 < xw5.heap.size + 1 + 1 := by refine ⟨?_, ?_, ?_, ?_, ?_, ?_, ?_, ?_, ?_, ?_, ?_, ?_, ?_, ?_, ?_, ?_, ?_, ?_, ?_, ?_, ?_, ?_, ?_, ?_, ?_, ?_, ?_, ?_, ?_, ?_⟩ <;> omega
        have hBx5 : Below w.heap.size w xw5 := (by (repeat (first | (with_reducible refine Below.drew ?_) | (with_reducible refine below_drewN ?_ _) | (with_reducible refine Below.alloc ?_ (by first | omega | (simp; done) | (simp; omega) | (simp at *; omega)) _) | (with_reducible refine Below.setCell ?_ (by first | omega | (simp; done) | (simp; omega) | (simp at *; omega)) _) | (with_reducible exact Below.refl _ _) | (with_reducible assumption) | (with_reducible refine Below.trans ?_ (Below.mono (by assumption) (by first | omega | (simp; done) | (simp; omega) | (simp at *; omega)))))))
        clear hbx5 x4_0_0 x4_0_1 x4_1_0 x4_1_1 x4_2_0 x4_2_1 x4_3_0 x4_3_1 x4_4_0 x4_4_1 x4_5_0 x4_5_1 x4f1 x4f4 x4f5 x4o0 x4n0 x4m0 x4t0_0 x4t0_1 x4o1 x4n1 x4m1 x4t1_0 x4t1_1 x4o2 x4n2 x4m2 x4t2_0 x4t2_1 x4o3 x4n3 x4m3 x4t3_0 x4t3_1 x4o4 x4n4 x4m4 x4t4_0 x4t4_1 x4o5 x4n5 x4m5 x4t5_0 x4t5_1 hBx4
        go_wp2_with fail
        refine hK.out _ _ (by simp [go_sem, World.cell?_alloc_past, *]) (fun hHeld => ?_)
        clear hK K
        try simp only [Act.put, sA, sB, sC]
        refine wpAnyH_ready (rs := [12]) (by kernel_rfl) (by simp) ?_
        refine AllReadyH.cons rfl (fun K hK => ?_) (AllReadyH.nil)
        go_simp
        go_wp2_with fail
        refine hK.out _ _ (by simp [go_sem, World.cell?_alloc_past, *]) (fun hHeld => ?_)
        clear hK K
        try simp only [Act.put, sA, sB, sC]
        refine wpAnyH_ready (rs := [13]) (by kernel_rfl) (by simp) ?_
        refine AllReadyH.cons rfl (fun K hK => ?_) (AllReadyH.nil)
        go_simp
        go_wp2_with fail
        refine hK.out _ _ (by simp [go_sem, World.cell?_alloc_past, *]) (fun hHeld => ?_)
        clear hK K
        try simp only [Act.put, sA, sB, sC]
        refine wpAnyH_done (by kernel_rfl) ?_ _
        go_wp2_with fail
        go_meet
        refine ⟨xw3.heap.size + 1 + 1, xw3.heap.size + 1 + 1 + 1, rfl, rfl, by first | omega | (simp; done) | (simp; omega), by first | omega | (simp; done) | (simp; omega), by first | omega | (simp; done) | (simp; omega), ⟨(by simp [go_sem, World.cell?_alloc_past, *]), (by simp [go_sem, World.cell?_alloc_past, *]), (by simp [go_sem, World.cell?_alloc_past, *]), (by simp [go_sem, World.cell?_alloc_past, *]), (by simp [go_sem, World.cell?_alloc_past, *]), (by simp [go_sem, World.cell?_alloc_past, *])⟩, by intro j; simp [go_sem, *], ?_⟩
        (repeat (first | (with_reducible refine Below.drew ?_) | (with_reducible refine below_drewN ?_ _) | (with_reducible refine Below.alloc ?_ (by first | omega | (simp; done) | (simp; omega) | (simp at *; omega)) _) | (with_reducible refine Below.setCell ?_ (by first | omega | (simp; done) | (simp; omega) | (simp at *; omega)) _) | (with_reducible exact Below.refl _ _) | (with_reducible assumption) | (with_reducible refine Below.trans ?_ (Below.mono (by assumption) (by first | omega | (simp; done) | (simp; omega) | (simp at *; omega))))))
    · skip
      go_simp
      go_wp2_with fail
      refine hK.out _ _ (by simp [go_sem, World.cell?_alloc_past, *]) (fun hHeld => ?_)
      clear hK K
      try simp only [Act.put, sA, sB, sC]
      refine wpAnyH_ready (rs := [4, 10]) (by kernel_rfl) (by simp) ?_
      refine AllReadyH.cons rfl (fun K hK => ?_) (AllReadyH.cons rfl (fun K hK => ?_) (AllReadyH.nil))
      · skip
        go_simp
        refine (amountsAt_any x v l1 u1 P q1 r1 _ hP P0 P1 bl1 bl1' bu1 bu1' hq1 hr1).mono ?_
        rintro e xw4 ⟨rfl, hbx4⟩
        have zx4 := hbx4.size
        try simp at zx4
        obtain ⟨x4_0_0, x4_0_1, x4_1_0, x4_1_1, x4_2_0, x4_2_1, x4_3_0, x4_3_1, x4_4_0, x4_4_1⟩ : xw4.cell? ⟨w.heap.size, 0, none⟩ = some (.int .i64 x) ∧ xw4.cell? ⟨w.heap.size, 1, none⟩ = some (.int .i64 y) ∧ xw4.cell? ⟨w.heap.size + 1, 0, none⟩ = some (.int .i64 0) ∧ xw4.cell? ⟨w.heap.size + 1, 1, none⟩ = some (.int .i64 0) ∧ xw4.cell? ⟨s, 0, none⟩ = some (.int .i64 l1) ∧ xw4.cell? ⟨s, 1, none⟩ = some (.int .i64 u1) ∧ xw4.cell? ⟨xw3.heap.size, 0, none⟩ = some (.int .i64 l2) ∧ xw4.cell? ⟨xw3.heap.size, 1, none⟩ = some (.int .i64 u2) ∧ xw4.cell? ⟨xw3.heap.size + 1 + 1, 0, none⟩ = some (.int .i64 0) ∧ xw4.cell? ⟨xw3.heap.size + 1 + 1, 1, none⟩ = some (.int .i64 0) := by refine ⟨?_, ?_, ?_, ?_, ?_, ?_, ?_, ?_, ?_, ?_⟩ <;> (rw [(bcell hbx4).1 _ _ (by first | (simp; done) | (simp; omega) | omega)]; simp [go_sem, World.cell?_alloc_past, *])
        obtain ⟨x4f1, x4f4⟩ : (∀ j, xw4.frozen? ⟨w.heap.size + 1, j, none⟩ = false) ∧ (∀ j, xw4.frozen? ⟨xw3.heap.size + 1 + 1, j, none⟩ = false) := by refine ⟨?_, ?_⟩ <;> (intro j; rw [(bcell hbx4).2 _ _ (by first | (simp; done) | (simp; omega) | omega)]; simp [go_sem, *])
        obtain ⟨x4o0, x4n0, x4m0, x4t0_0, x4t0_1, x4o1, x4n1, x4m1, x4t1_0, x4t1_1, x4o2, x4n2, x4m2, x4t2_0, x4t2_1, x4o3, x4n3, x4m3, x4t3_0, x4t3_1, x4o4, x4n4, x4m4, x4t4_0, x4t4_1⟩ : w.heap.size < xw4.heap.size ∧ xw4.heap.size ≠ w.heap.size ∧ w.heap.size ≠ xw4.heap.size ∧ w.heap.size < xw4.heap.size + 1 ∧ w.heap.size < xw4.heap.size + 1 + 1 ∧ w.heap.size + 1 < xw4.heap.size ∧ xw4.heap.size ≠ w.heap.size + 1 ∧ w.heap.size + 1 ≠ xw4.heap.size ∧ w.heap.size + 1 < xw4.heap.size + 1 ∧ w.heap.size + 1 < xw4.heap.size + 1 + 1 ∧ s < xw4.heap.size ∧ xw4.heap.size ≠ s ∧ s ≠ xw4.heap.size ∧ s < xw4.heap.size + 1 ∧ s < xw4.heap.size + 1 + 1 ∧ xw3.heap.size < xw4.heap.size ∧ xw4.heap.size ≠ xw3.heap.size ∧ xw3.heap.size ≠ xw4.heap.size ∧ xw3.heap.size < xw4.heap.size + 1 ∧ xw3.heap.size < xw4.heap.size + 1 + 1 ∧ xw3.heap.size + 1 + 1 < xw4.heap.size ∧ xw4.heap.size ≠ xw3.heap.size + 1 + 1 ∧ xw3.heap.size + 1 + 1 ≠ xw4.heap.size ∧ xw3.heap.size + 1 + 1 < xw4.heap.size + 1 ∧ xw3.heap.size + 1 + 1 < xw4.heap.size + 1 + 1 := by refine ⟨?_, ?_, ?_, ?_, ?_, ?_, ?_, ?_, ?_, ?_, ?_, ?_, ?_, ?_, ?_, ?_, ?_, ?_, ?_, ?_, ?_, ?_, ?_, ?_, ?_⟩ <;> omega
        have hBx4 : Below w.heap.size w xw4 := (by (repeat (first | (with_reducible refine Below.drew ?_) | (with_reducible refine below_drewN ?_ _) | (with_reducible refine Below.alloc ?_ (by first | omega | (simp; done) | (simp; omega) | (simp at *; omega)) _) | (with_reducible refine Below.setCell ?_ (by first | omega | (simp; done) | (simp; omega) | (simp at *; omega)) _) | (with_reducible exact Below.refl _ _) | (with_reducible assumption) | (with_reducible refine Below.trans ?_ (Below.mono (by assumption) (by first | omega | (simp; done) | (simp; omega) | (simp at *; omega)))))))
        clear hbx4 x3_0_0 x3_0_1 x3_1_0 x3_1_1 x3_2_0 x3_2_1 x3f1 x3o0 x3n0 x3m0 x3t0_0 x3t0_1 x3o1 x3n1 x3m1 x3t1_0 x3t1_1 x3o2 x3n2 x3m2 x3t2_0 x3t2_1 hBx3
        go_wp2_with fail
        refine hK.out _ _ (by simp [go_sem, World.cell?_alloc_past, *]) (fun hHeld => ?_)
        clear hK K
        try simp only [Act.put, sA, sB, sC]
        refine wpAnyH_ready (rs := [9, 10]) (by kernel_rfl) (by simp) ?_
        refine AllReadyH.cons rfl (fun K hK => ?_) (AllReadyH.cons rfl (fun K hK => ?_) (AllReadyH.nil))
        · skip
          go_simp
          refine (amountsAt_any y v l2 u2 Q q2 r2 _ hQ Q0 Q1 bl2 bl2' bu2 bu2' hq2 hr2).mono ?_
          rintro e xw5 ⟨rfl, hbx5⟩
          have zx5 := hbx5.size
          try simp at zx5
          obtain ⟨x5_0_0, x5_0_1, x5_1_0, x5_1_1, x5_2_0, x5_2_1, x5_3_0, x5_3_1, x5_4_0, x5_4_1⟩ : xw5.cell? ⟨w.heap.size, 0, none⟩ = some (.int .i64 x) ∧ xw5.cell? ⟨w.heap.size, 1, none⟩ = some (.int .i64 y) ∧ xw5.cell? ⟨w.heap.size + 1, 0, none⟩ = some (.int .i64 0) ∧ xw5.cell? ⟨w.heap.size + 1, 1, none⟩ = some (.int .i64 0) ∧ xw5.cell? ⟨s, 0, none⟩ = some (.int .i64 l1) ∧ xw5.cell? ⟨s, 1, none⟩ = some (.int .i64 u1) ∧ xw5.cell? ⟨xw3.heap.size, 0, none⟩ = some (.int .i64 l2) ∧ xw5.cell? ⟨xw3.heap.size, 1, none⟩ = some (.int .i64 u2) ∧ xw5.cell? ⟨xw3.heap.size + 1 + 1, 0, none⟩ = some (.int .i64 0) ∧ xw5.cell? ⟨xw3.heap.size + 1 + 1, 1, none⟩ = some (.int .i64 0) := by refine ⟨?_, ?_, ?_, ?_, ?_, ?_, ?_, ?_, ?_, ?_⟩ <;> (rw [(bcell hbx5).1 _ _ (by first | (simp; done) | (simp; omega) | omega)]; simp [go_sem, World.cell?_alloc_past, *])
          obtain ⟨x5f1, x5f4⟩ : (∀ j, xw5.frozen? ⟨w.heap.size + 1, j, none⟩ = false) ∧ (∀ j, xw5.frozen? ⟨xw3.heap.size + 1 + 1, j, none⟩ = false) := by refine ⟨?_, ?_⟩ <;> (intro j; rw [(bcell hbx5).2 _ _ (by first | (simp; done) | (simp; omega) | omega)]; simp [go_sem, *])
          obtain ⟨x5o0, x5n0, x5m0, x5t0_0, x5t0_1, x5o1, x5n1, x5m1, x5t1_0, x5t1_1, x5o2, x5n2, x5m2, x5t2_0, x5t2_1, x5o3, x5n3, x5m3, x5t3_0, x5t3_1, x5o4, x5n4, x5m4, x5t4_0, x5t4_1⟩ : w.heap.size < xw5.heap.size ∧ xw5.heap.size ≠ w.heap.size ∧ w.heap.size ≠ xw5.heap.size ∧ w.heap.size < xw5.heap.size + 1 ∧ w.heap.size < xw5.heap.size + 1 + 1 ∧ w.heap.size + 1 < xw5.heap.size ∧ xw5.heap.size ≠ w.heap.size + 1 ∧ w.heap.size + 1 ≠ xw5.heap.size ∧ w.heap.size + 1 < xw5.heap.size + 1 ∧ w.heap.size + 1 < xw5.heap.size + 1 + 1 ∧ s < xw5.heap.size ∧ xw5.heap.size ≠ s ∧ s ≠ xw5.heap.size ∧ s < xw5.heap.size + 1 ∧ s < xw5.heap.size + 1 + 1 ∧ xw3.heap.size < xw5.heap.size ∧ xw5.heap.size ≠ xw3.heap.size ∧ xw3.heap.size ≠ xw5.heap.size ∧ xw3.heap.size < xw5.heap.size + 1 ∧ xw3.heap.size < xw5.heap.size + 1 + 1 ∧ xw3.heap.size + 1 + 1 < xw5.heap.size ∧ xw5.heap.size ≠ xw3.heap.size + 1 + 1 ∧ xw3.heap.size + 1 + 1 ≠ xw5.heap.size ∧ xw3.heap.size + 1 + 1 < xw5.heap.size + 1 ∧ xw3.heap.size + 1 + 1 < xw5.heap.size + 1 + 1 := by refine ⟨?_, ?_, ?_, ?_, ?_, ?_, ?_, ?_, ?_, ?_, ?_, ?_, ?_, ?_, ?_, ?_, ?_, ?_, ?_, ?_, ?_, ?_, ?_, ?_, ?_⟩ <;> omega
          have hBx5 : Below w.heap.size w xw5 := (by (repeat (first | (with_reducible refine Below.drew ?_) | (with_reducible refine below_drewN ?_ _) | (with_reducible refine Below.alloc ?_ (by first | omega | (simp; done) | (simp; omega) | (simp at *; omega)) _) | (with_reducible refine Below.setCell ?_ (by first | omega | (simp; done) | (simp; omega) | (simp at *; omega)) _) | (with_reducible exact Below.refl _ _) | (with_reducible assumption) | (with_reducible refine Below.trans ?_ (Below.mono (by assumption) (by first | omega | (simp; done) | (simp; omega) | (simp at *; omega)))))))
          clear hbx5 x4_0_0 x4_0_1 x4_1_0 x4_1_1 x4_2_0 x4_2_1 x4_3_0 x4_3_1 x4_4_0 x4_4_1 x4f1 x4f4 x4o0 x4n0 x4m0 x4t0_0 x4t0_1 x4o1 x4n1 x4m1 x4t1_0 x4t1_1 x4o2 x4n2 x4m2 x4t2_0 x4t2_1 x4o3 x4n3 x4m3 x4t3_0 x4t3_1 x4o4 x4n4 x4m4 x4t4_0 x4t4_1 hBx4
          go_wp2_with fail
          refine hK.out _ _ (by simp [go_sem, World.cell?_alloc_past, *]) (fun hHeld => ?_)
          clear hK K
          try simp only [Act.put, sA, sB, sC]
          refine wpAnyH_ready (rs := [10]) (by kernel_rfl) (by simp) ?_
          refine AllReadyH.cons rfl (fun K hK => ?_) (AllReadyH.nil)
          go_simp
          go_wp2_with fail
          refine hK.out _ _ (by simp [go_sem, World.cell?_alloc_past, *]) (fun hHeld => ?_)
          clear hK K
          try simp only [Act.put, sA, sB, sC]
          refine wpAnyH_ready (rs := [12]) (by kernel_rfl) (by simp) ?_
          refine AllReadyH.cons rfl (fun K hK => ?_) (AllReadyH.nil)
          go_simp
          go_wp2_with fail
          refine hK.out _ _ (by simp [go_sem, World.cell?_alloc_past, *]) (fun hHeld => ?_)
          clear hK K
          try simp only [Act.put, sA, sB, sC]
          refine wpAnyH_ready (rs := [13]) (by kernel_rfl) (by simp) ?_
          refine AllReadyH.cons rfl (fun K hK => ?_) (AllReadyH.nil)
          go_simp
          go_wp2_with fail
          refine hK.out _ _ (by simp [go_sem, World.cell?_alloc_past, *]) (fun hHeld => ?_)
          clear hK K
          try simp only [Act.put, sA, sB, sC]
          refine wpAnyH_done (by kernel_rfl) ?_ _
          go_wp2_with fail
          go_meet
          refine ⟨xw5.heap.size, xw3.heap.size + 1 + 1, rfl, rfl, by first | omega | (simp; done) | (simp; omega), by first | omega | (simp; done) | (simp; omega), by first | omega | (simp; done) | (simp; omega), ⟨(by simp [go_sem, World.cell?_alloc_past, *]), (by simp [go_sem, World.cell?_alloc_past, *]), (by simp [go_sem, World.cell?_alloc_past, *]), (by simp [go_sem, World.cell?_alloc_past, *]), (by simp [go_sem, World.cell?_alloc_past, *]), (by simp [go_sem, World.cell?_alloc_past, *])⟩, by intro j; simp [go_sem, *], ?_⟩
          (repeat (first | (with_reducible refine Below.drew ?_) | (with_reducible refine below_drewN ?_ _) | (with_reducible refine Below.alloc ?_ (by first | omega | (simp; done) | (simp; omega) | (simp at *; omega)) _) | (with_reducible refine Below.setCell ?_ (by first | omega | (simp; done) | (simp; omega) | (simp at *; omega)) _) | (with_reducible exact Below.refl _ _) | (with_reducible assumption) | (with_reducible refine Below.trans ?_ (Below.mono (by assumption) (by first | omega | (simp; done) | (simp; omega) | (simp at *; omega))))))
        · skip
          go_simp
          go_wp2_with fail
          refine hK.out _ _ (by simp [go_sem, World.cell?_alloc_past, *]) (fun hHeld => ?_)
          clear hK K
          try simp only [Act.put, sA, sB, sC]
          refine wpAnyH_ready (rs := [9]) (by kernel_rfl) (by simp) ?_
          refine AllReadyH.cons rfl (fun K hK => ?_) (AllReadyH.nil)
          go_simp
          refine (amountsAt_any y v l2 u2 Q q2 r2 _ hQ Q0 Q1 bl2 bl2' bu2 bu2' hq2 hr2).mono ?_
          rintro e xw5 ⟨rfl, hbx5⟩
          have zx5 := hbx5.size
          try simp at zx5
          obtain ⟨x5_0_0, x5_0_1, x5_1_0, x5_1_1, x5_2_0, x5_2_1, x5_3_0, x5_3_1, x5_4_0, x5_4_1, x5_5_0, x5_5_1⟩ : xw5.cell? ⟨w.heap.size, 0, none⟩ = some (.int .i64 x) ∧ xw5.cell? ⟨w.heap.size, 1, none⟩ = some (.int .i64 y) ∧ xw5.cell? ⟨w.heap.size + 1, 0, none⟩ = some (.int .i64 0) ∧ xw5.cell? ⟨w.heap.size + 1, 1, none⟩ = some (.int .i64 0) ∧ xw5.cell? ⟨s, 0, none⟩ = some (.int .i64 l1) ∧ xw5.cell? ⟨s, 1, none⟩ = some (.int .i64 u1) ∧ xw5.cell? ⟨xw3.heap.size, 0, none⟩ = some (.int .i64 l2) ∧ xw5.cell? ⟨xw3.heap.size, 1, none⟩ = some (.int .i64 u2) ∧ xw5.cell? ⟨xw3.heap.size + 1 + 1, 0, none⟩ = some (.int .i64 0) ∧ xw5.cell? ⟨xw3.heap.size + 1 + 1, 1, none⟩ = some (.int .i64 0) ∧ xw5.cell? ⟨xw4.heap.size, 0, none⟩ = some (.int .i64 0) ∧ xw5.cell? ⟨xw4.heap.size, 1, none⟩ = some (.int .i64 0) := by refine ⟨?_, ?_, ?_, ?_, ?_, ?_, ?_, ?_, ?_, ?_, ?_, ?_⟩ <;> (rw [(bcell hbx5).1 _ _ (by first | (simp; done) | (simp; omega) | omega)]; simp [go_sem, World.cell?_alloc_past, *])
          obtain ⟨x5f1, x5f4, x5f5⟩ : (∀ j, xw5.frozen? ⟨w.heap.size + 1, j, none⟩ = false) ∧ (∀ j, xw5.frozen? ⟨xw3.heap.size + 1 + 1, j, none⟩ = false) ∧ (∀ j, xw5.frozen? ⟨xw4.heap.size, j, none⟩ = false) := by refine ⟨?_, ?_, ?_⟩ <;> (intro j; rw [(bcell hbx5).2 _ _ (by first | (simp; done) | (simp; omega) | omega)]; simp [go_sem, *])
          obtain ⟨x5o0, x5n0, x5m0, x5t0_0, x5t0_1, x5o1, x5n1, x5m1, x5t1_0, x5t1_1, x5o2, x5n2, x5m2, x5t2_0, x5t2_1, x5o3, x5n3, x5m3, x5t3_0, x5t3_1, x5o4, x5n4, x5m4, x5t4_0, x5t4_1, x5o5, x5n5, x5m5, x5t5_0, x5t5_1⟩ : w.heap.size < xw5.heap.size ∧ xw5.heap.size ≠ w.heap.size ∧ w.heap.size ≠ xw5.heap.size ∧ w.heap.size < xw5.heap.size + 1 ∧ w.heap.size < xw5.heap.size + 1 + 1 ∧ w.heap.size + 1 < xw5.heap.size ∧ xw5.heap.size ≠ w.heap.size + 1 ∧ w.heap.size + 1 ≠ xw5.heap.size ∧ w.heap.size + 1 < xw5.heap.size + 1 ∧ w.heap.size + 1 < xw5.heap.size + 1 + 1 ∧ s < xw5.heap.size ∧ xw5.heap.size ≠ s ∧ s ≠ xw5.heap.size ∧ s < xw5.heap.size + 1 ∧ s < xw5.heap.size + 1 + 1 ∧ xw3.heap.size < xw5.heap.size ∧ xw5.heap.size ≠ xw3.heap.size ∧ xw3.heap.size ≠ xw5.heap.size ∧ xw3.heap.size < xw5.heap.size + 1 ∧ xw3.heap.size < xw5.heap.size + 1 + 1 ∧ xw3.heap.size + 1 + 1 < xw5.heap.size ∧ xw5.heap.size ≠ xw3.heap.size + 1 + 1 ∧ xw3.heap.size + 1 + 1 ≠ xw5.heap.size ∧ xw3.heap.size + 1 + 1 < xw5.heap.size + 1 ∧ xw3.heap.size + 1 + 1 < xw5.heap.size + 1 + 1 ∧ xw4.heap.size < xw5.heap.size ∧ xw5.heap.size ≠ xw4.heap.size ∧ xw4.heap.size ≠ xw5.heap.size ∧ xw4.heap.size < xw5.heap.size + 1 ∧ xw4.heap.size < xw5.heap.size + 1 + 1 := by refine ⟨?_, ?_, ?_, ?_, ?_, ?_, ?_, ?_, ?_, ?_, ?_, ?_, ?_, ?_, ?_, ?_, ?_, ?_, ?_, ?_, ?_, ?_, ?_, ?_, ?_, ?_, ?_, ?_, ?_, ?_⟩ <;> omega
          have hBx5 : Below w.heap.size w xw5 := (by (repeat (first | (with_reducible refine Below.drew ?_) | (with_reducible refine below_drewN ?_ _) | (with_reducible refine Below.alloc ?_ (by first | omega | (simp; done) | (simp; omega) | (simp at *; omega)) _) | (with_reducible refine Below.setCell ?_ (by first | omega | (simp; done) | (simp; omega) | (simp at *; omega)) _) | (with_reducible exact Below.refl _ _) | (with_reducible assumption) | (with_reducible refine Below.trans ?_ (Below.mono (by assumption) (by first | omega | (simp; done) | (simp; omega) | (simp at *; omega)))))))
          clear hbx5 x4_0_0 x4_0_1 x4_1_0 x4_1_1 x4_2_0 x4_2_1 x4_3_0 x4_3_1 x4_4_0 x4_4_1 x4f1 x4f4 x4o0 x4n0 x4m0 x4t0_0 x4t0_1 x4o1 x4n1 x4m1 x4t1_0 x4t1_1 x4o2 x4n2 x4m2 x4t2_0 x4t2_1 x4o3 x4n3 x4m3 x4t3_0 x4t3_1 x4o4 x4n4 x4m4 x4t4_0 x4t4_1 hBx4
          go_wp2_with fail
          refine hK.out _ _ (by simp [go_sem, World.cell?_alloc_past, *]) (fun hHeld => ?_)
          clear hK K
          try simp only [Act.put, sA, sB, sC]
          refine wpAnyH_ready (rs := [12]) (by kernel_rfl) (by simp) ?_
          refine AllReadyH.cons rfl (fun K hK => ?_) (AllReadyH.nil)
          go_simp
          go_wp2_with fail
          refine hK.out _ _ (by simp [go_sem, World.cell?_alloc_past, *]) (fun hHeld => ?_)
          clear hK K
          try simp only [Act.put, sA, sB, sC]
          refine wpAnyH_ready (rs := [13]) (by kernel_rfl) (by simp) ?_
          refine AllReadyH.cons rfl (fun K hK => ?_) (AllReadyH.nil)
          go_simp
          go_wp2_with fail
          refine hK.out _ _ (by simp [go_sem, World.cell?_alloc_past, *]) (fun hHeld => ?_)
          clear hK K
          try simp only [Act.put, sA, sB, sC]
          refine wpAnyH_done (by kernel_rfl) ?_ _
          go_wp2_with fail
          go_meet
          refine ⟨xw4.heap.size, xw3.heap.size + 1 + 1, rfl, rfl, by first | omega | (simp; done) | (simp; omega), by first | omega | (simp; done) | (simp; omega), by first | omega | (simp; done) | (simp; omega), ⟨(by simp [go_sem, World.cell?_alloc_past, *]), (by simp [go_sem, World.cell?_alloc_past, *]), (by simp [go_sem, World.cell?_alloc_past, *]), (by simp [go_sem, World.cell?_alloc_past, *]), (by simp [go_sem, World.cell?_alloc_past, *]), (by simp [go_sem, World.cell?_alloc_past, *])⟩, by intro j; simp [go_sem, *], ?_⟩
          (repeat (first | (with_reducible refine Below.drew ?_) | (with_reducible refine below_drewN ?_ _) | (with_reducible refine Below.alloc ?_ (by first | omega | (simp; done) | (simp; omega) | (simp at *; omega)) _) | (with_reducible refine Below.setCell ?_ (by first | omega | (simp; done) | (simp; omega) | (simp at *; omega)) _) | (with_reducible exact Below.refl _ _) | (with_reducible assumption) | (with_reducible refine Below.trans ?_ (Below.mono (by assumption) (by first | omega | (simp; done) | (simp; omega) | (simp at *; omega))))))
      · skip
        go_simp
        go_wp2_with fail
        refine hK.out _ _ (by simp [go_sem, World.cell?_alloc_past, *]) (fun hHeld => ?_)
        clear hK K
        try simp only [Act.put, sA, sB, sC]
        refine wpAnyH_ready (rs := [4]) (by kernel_rfl) (by simp) ?_
        refine AllReadyH.cons rfl (fun K hK => ?_) (AllReadyH.nil)
        go_simp
        refine (amountsAt_any x v l1 u1 P q1 r1 _ hP P0 P1 bl1 bl1' bu1 bu1' hq1 hr1).mono ?_
        rintro e xw4 ⟨rfl, hbx4⟩
        have zx4 := hbx4.size
        try simp at zx4
        obtain ⟨x4_0_0, x4_0_1, x4_1_0, x4_1_1, x4_2_0, x4_2_1, x4_3_0, x4_3_1, x4_4_0, x4_4_1, x4_5_0, x4_5_1⟩ : xw4.cell? ⟨w.heap.size, 0, none⟩ = some (.int .i64 x) ∧ xw4.cell? ⟨w.heap.size, 1, none⟩ = some (.int .i64 y) ∧ xw4.cell? ⟨w.heap.size + 1, 0, none⟩ = some (.int .i64 0) ∧ xw4.cell? ⟨w.heap.size + 1, 1, none⟩ = some (.int .i64 0) ∧ xw4.cell? ⟨s, 0, none⟩ = some (.int .i64 l1) ∧ xw4.cell? ⟨s, 1, none⟩ = some (.int .i64 u1) ∧ xw4.cell? ⟨xw3.heap.size, 0, none⟩ = some (.int .i64 l2) ∧ xw4.cell? ⟨xw3.heap.size, 1, none⟩ = some (.int .i64 u2) ∧ xw4.cell? ⟨xw3.heap.size + 1 + 1, 0, none⟩ = some (.int .i64 0) ∧ xw4.cell? ⟨xw3.heap.size + 1 + 1, 1, none⟩ = some (.int .i64 0) ∧ xw4.cell? ⟨xw3.heap.size + 1 + 1 + 1, 0, none⟩ = some (.int .i64 0) ∧ xw4.cell? ⟨xw3.heap.size + 1 + 1 + 1, 1, none⟩ = some (.int .i64 0) := by refine ⟨?_, ?_, ?_, ?_, ?_, ?_, ?_, ?_, ?_, ?_, ?_, ?_⟩ <;> (rw [(bcell hbx4).1 _ _ (by first | (simp; done) | (simp; omega) | omega)]; simp [go_sem, World.cell?_alloc_past, *])
        obtain ⟨x4f1, x4f4, x4f5⟩ : (∀ j, xw4.frozen? ⟨w.heap.size + 1, j, none⟩ = false) ∧ (∀ j, xw4.frozen? ⟨xw3.heap.size + 1 + 1, j, none⟩ = false) ∧ (∀ j, xw4.frozen? ⟨xw3.heap.size + 1 + 1 + 1, j, none⟩ = false) := by refine ⟨?_, ?_, ?_⟩ <;> (intro j; rw [(bcell hbx4).2 _ _ (by first | (simp; done) | (simp; omega) | omega)]; simp [go_sem, *])
        obtain ⟨x4o0, x4n0, x4m0, x4t0_0, x4t0_1, x4o1, x4n1, x4m1, x4t1_0, x4t1_1, x4o2, x4n2, x4m2, x4t2_0, x4t2_1, x4o3, x4n3, x4m3, x4t3_0, x4t3_1, x4o4, x4n4, x4m4, x4t4_0, x4t4_1, x4o5, x4n5, x4m5, x4t5_0, x4t5_1⟩ : w.heap.size < xw4.heap.size ∧ xw4.heap.size ≠ w.heap.size ∧ w.heap.size ≠ xw4.heap.size ∧ w.heap.size < xw4.heap.size + 1 ∧ w.heap.size < xw4.heap.size + 1 + 1 ∧ w.heap.size + 1 < xw4.heap.size ∧ xw4.heap.size ≠ w.heap.size + 1 ∧ w.heap.size + 1 ≠ xw4.heap.size ∧ w.heap.size + 1 < xw4.heap.size + 1 ∧ w.heap.size + 1 < xw4.heap.size + 1 + 1 ∧ s < xw4.heap.size ∧ xw4.heap.size ≠ s ∧ s ≠ xw4.heap.size ∧ s < xw4.heap.size + 1 ∧ s < xw4.heap.size + 1 + 1 ∧ xw3.heap.size < xw4.heap.size ∧ xw4.heap.size ≠ xw3.heap.size ∧ xw3.heap.size ≠ xw4.heap.size ∧ xw3.heap.size < xw4.heap.size + 1 ∧ xw3.heap.size < xw4.heap.size + 1 + 1 ∧ xw3.heap.size + 1 + 1 < xw4.heap.size ∧ xw4.heap.size ≠ xw3.heap.size + 1 + 1 ∧ xw3.heap.size + 1 + 1 ≠ xw4.heap.size ∧ xw3.heap.size + 1 + 1 < xw4.heap.size + 1 ∧ xw3.heap.size + 1 + 1 < xw4.heap.size + 1 + 1 ∧ xw3.heap.size + 1 + 1 + 1 < xw4.heap.size ∧ xw4.heap.size ≠ xw3.heap.size + 1 + 1 + 1 ∧ xw3.heap.size + 1 + 1 + 1 ≠ xw4.heap.size ∧ xw3.heap.size + 1 + 1 + 1 < xw4.heap.size + 1 ∧ xw3.heap.size + 1 + 1 + 1 < xw4.heap.size + 1 + 1 := by refine ⟨?_, ?_, ?_, ?_, ?_, ?_, ?_, ?_, ?_, ?_, ?_, ?_, ?_, ?_, ?_, ?_, ?_, ?_, ?_, ?_, ?_, ?_, ?_, ?_, ?_, ?_, ?_, ?_, ?_, ?_⟩ <;> omega
        have hBx4 : Below w.heap.size w xw4 := (by (repeat (first | (with_reducible refine Below.drew ?_) | (with_reducible refine below_drewN ?_ _) | (with_reducible refine Below.alloc ?_ (by first | omega | (simp; done) | (simp; omega) | (simp at *; omega)) _) | (with_reducible refine Below.setCell ?_ (by first | omega | (simp; done) | (simp; omega) | (simp at *; omega)) _) | (with_reducible exact Below.refl _ _) | (with_reducible assumption) | (with_reducible refine Below.trans ?_ (Below.mono (by assumption) (by first | omega | (simp; done) | (simp; omega) | (simp at *; omega)))))))
        clear hbx4 x3_0_0 x3_0_1 x3_1_0 x3_1_1 x3_2_0 x3_2_1 x3f1 x3o0 x3n0 x3m0 x3t0_0 x3t0_1 x3o1 x3n1 x3m1 x3t1_0 x3t1_1 x3o2 x3n2 x3m2 x3t2_0 x3t2_1 hBx3
        go_wp2_with fail
        refine hK.out _ _ (by simp [go_sem, World.cell?_alloc_past, *]) (fun hHeld => ?_)
        clear hK K
        try simp only [Act.put, sA, sB, sC]
        refine wpAnyH_ready (rs := [9]) (by kernel_rfl) (by simp) ?_
        refine AllReadyH.cons rfl (fun K hK => ?_) (AllReadyH.nil)
        go_simp
        refine (amountsAt_any y v l2 u2 Q q2 r2 _ hQ Q0 Q1 bl2 bl2' bu2 bu2' hq2 hr2).mono ?_
        rintro e xw5 ⟨rfl, hbx5⟩
        have zx5 := hbx5.size
        try simp at zx5
        obtain ⟨x5_0_0, x5_0_1, x5_1_0, x5_1_1, x5_2_0, x5_2_1, x5_3_0, x5_3_1, x5_4_0, x5_4_1, x5_5_0, x5_5_1⟩ : xw5.cell? ⟨w.heap.size, 0, none⟩ = some (.int .i64 x) ∧ xw5.cell? ⟨w.heap.size, 1, none⟩ = some (.int .i64 y) ∧ xw5.cell? ⟨w.heap.size + 1, 0, none⟩ = some (.int .i64 0) ∧ xw5.cell? ⟨w.heap.size + 1, 1, none⟩ = some (.int .i64 0) ∧ xw5.cell? ⟨s, 0, none⟩ = some (.int .i64 l1) ∧ xw5.cell? ⟨s, 1, none⟩ = some (.int .i64 u1) ∧ xw5.cell? ⟨xw3.heap.size, 0, none⟩ = some (.int .i64 l2) ∧ xw5.cell? ⟨xw3.heap.size, 1, none⟩ = some (.int .i64 u2) ∧ xw5.cell? ⟨xw3.heap.size + 1 + 1, 0, none⟩ = some (.int .i64 0) ∧ xw5.cell? ⟨xw3.heap.size + 1 + 1, 1, none⟩ = some (.int .i64 0) ∧ xw5.cell? ⟨xw3.heap.size + 1 + 1 + 1, 0, none⟩ = some (.int .i64 0) ∧ xw5.cell? ⟨xw3.heap.size + 1 + 1 + 1, 1, none⟩ = some (.int .i64 0) := by refine ⟨?_, ?_, ?_, ?_, ?_, ?_, ?_, ?_, ?_, ?_, ?_, ?_⟩ <;> (rw [(bcell hbx5).1 _ _ (by first | (simp; done) | (simp; omega) | omega)]; simp [go_sem, World.cell?_alloc_past, *])
        obtain ⟨x5f1, x5f4, x5f5⟩ : (∀ j, xw5.frozen? ⟨w.heap.size + 1, j, none⟩ = false) ∧ (∀ j, xw5.frozen? ⟨xw3.heap.size + 1 + 1, j, none⟩ = false) ∧ (∀ j, xw5.frozen? ⟨xw3.heap.size + 1 + 1 + 1, j, none⟩ = false) := by refine ⟨?_, ?_, ?_⟩ <;> (intro j; rw [(bcell hbx5).2 _ _ (by first | (simp; done) | (simp; omega) | omega)]; simp [go_sem, *])
        obtain ⟨x5o0, x5n0, x5m0, x5t0_0, x5t0_1, x5o1, x5n1, x5m1, x5t1_0, x5t1_1, x5o2, x5n2, x5m2, x5t2_0, x5t2_1, x5o3, x5n3, x5m3, x5t3_0, x5t3_1, x5o4, x5n4, x5m4, x5t4_0, x5t4_1, x5o5, x5n5, x5m5, x5t5_0, x5t5_1⟩ : w.heap.size < xw5.heap.size ∧ xw5.heap.size ≠ w.heap.size ∧ w.heap.size ≠ xw5.heap.size ∧ w.heap.size < xw5.heap.size + 1 ∧ w.heap.size < xw5.heap.size + 1 + 1 ∧ w.heap.size + 1 < xw5.heap.size ∧ xw5.heap.size ≠ w.heap.size + 1 ∧ w.heap.size + 1 ≠ xw5.heap.size ∧ w.heap.size + 1 < xw5.heap.size + 1 ∧ w.heap.size + 1 < xw5.heap.size + 1 + 1 ∧ s < xw5.heap.size ∧ xw5.heap.size ≠ s ∧ s ≠ xw5.heap.size ∧ s < xw5.heap.size + 1 ∧ s < xw5.heap.size + 1 + 1 ∧ xw3.heap.size < xw5.heap.size ∧ xw5.heap.size ≠ xw3.heap.size ∧ xw3.heap.size ≠ xw5.heap.size ∧ xw3.heap.size < xw5.heap.size + 1 ∧ xw3.heap.size < xw5.heap.size + 1 + 1 ∧ xw3.heap.size + 1 + 1 < xw5.heap.size ∧ xw5.heap.size ≠ xw3.heap.size + 1 + 1 ∧ xw3.heap.size + 1 + 1 ≠ xw5.heap.size ∧ xw3.heap.size + 1 + 1 < xw5.heap.size + 1 ∧ xw3.heap.size + 1 + 1 < xw5.heap.size + 1 + 1 ∧ xw3.heap.size + 1 + 1 + 1 < xw5.heap.size ∧ xw5.heap.size ≠ xw3.heap.size + 1 + 1 + 1 ∧ xw3.heap.size + 1 + 1 + 1 ≠ xw5.heap.size ∧ xw3.heap.size + 1 + 1 + 1 < xw5.heap.size + 1 ∧ xw3.heap.size + 1 + 1 + 1 < xw5.heap.size + 1 + 1 := by refine ⟨?_, ?_, ?_, ?_, ?_, ?_, ?_, ?_, ?_, ?_, ?_, ?_, ?_, ?_, ?_, ?_, ?_, ?_, ?_, ?_, ?_, ?_, ?_, ?_, ?_, ?_, ?_, ?_, ?_, ?_⟩ <;> omega
        have hBx5 : Below w.heap.size w xw5 := (by (repeat (first | (with_reducible refine Below.drew ?_) | (with_reducible refine below_drewN ?_ _) | (with_reducible refine Below.alloc ?_ (by first | omega | (simp; done) | (simp; omega) | (simp at *; omega)) _) | (with_reducible refine Below.setCell ?_ (by first | omega | (simp; done) | (simp; omega) | (simp at *; omega)) _) | (with_reducible exact Below.refl _ _) | (with_reducible assumption) | (with_reducible refine Below.trans ?_ (Below.mono (by assumption) (by first | omega | (simp; done) | (simp; omega) | (simp at *; omega)))))))
        clear hbx5 x4_0_0 x4_0_1 x4_1_0 x4_1_1 x4_2_0 x4_2_1 x4_3_0 x4_3_1 x4_4_0 x4_4_1 x4_5_0 x4_5_1 x4f1 x4f4 x4f5 x4o0 x4n0 x4m0 x4t0_0 x4t0_1 x4o1 x4n1 x4m1 x4t1_0 x4t1_1 x4o2 x4n2 x4m2 x4t2_0 x4t2_1 x4o3 x4n3 x4m3 x4t3_0 x4t3_1 x4o4 x4n4 x4m4 x4t4_0 x4t4_1 x4o5 x4n5 x4m5 x4t5_0 x4t5_1 hBx4
        go_wp2_with fail
        refine hK.out _ _ (by simp [go_sem, World.cell?_alloc_past, *]) (fun hHeld => ?_)
        clear hK K
        try simp only [Act.put, sA, sB, sC]
        refine wpAnyH_ready (rs := [12]) (by kernel_rfl) (by simp) ?_
        refine AllReadyH.cons rfl (fun K hK => ?_) (AllReadyH.nil)
        go_simp
        go_wp2_with fail
        refine hK.out _ _ (by simp [go_sem, World.cell?_alloc_past, *]) (fun hHeld => ?_)
        clear hK K
        try simp only [Act.put, sA, sB, sC]
        refine wpAnyH_ready (rs := [13]) (by kernel_rfl) (by simp) ?_
        refine AllReadyH.cons rfl (fun K hK => ?_) (AllReadyH.nil)
        go_simp
        go_wp2_with fail
        refine hK.out _ _ (by simp [go_sem, World.cell?_alloc_past, *]) (fun hHeld => ?_)
        clear hK K
        try simp only [Act.put, sA, sB, sC]
        refine wpAnyH_done (by kernel_rfl) ?_ _
        go_wp2_with fail
        go_meet
        refine ⟨xw3.heap.size + 1 + 1 + 1, xw3.heap.size + 1 + 1, rfl, rfl, by first | omega | (simp; done) | (simp; omega), by first | omega | (simp; done) | (simp; omega), by first | omega | (simp; done) | (simp; omega), ⟨(by simp [go_sem, World.cell?_alloc_past, *]), (by simp [go_sem, World.cell?_alloc_past, *]), (by simp [go_sem, World.cell?_alloc_past, *]), (by simp [go_sem, World.cell?_alloc_past, *]), (by simp [go_sem, World.cell?_alloc_past, *]), (by simp [go_sem, World.cell?_alloc_past, *])⟩, by intro j; simp [go_sem, *], ?_⟩
        (repeat (first | (with_reducible refine Below.drew ?_) | (with_reducible refine below_drewN ?_ _) | (with_reducible refine Below.alloc ?_ (by first | omega | (simp; done) | (simp; omega) | (simp at *; omega)) _) | (with_reducible refine Below.setCell ?_ (by first | omega | (simp; done) | (simp; omega) | (simp at *; omega)) _) | (with_reducible exact Below.refl _ _) | (with_reducible assumption) | (with_reducible refine Below.trans ?_ (Below.mono (by assumption) (by first | omega | (simp; done) | (simp; omega) | (simp at *; omega))))))
  case rest =>
    obtain ⟨m, n, rfl, rfl, lm, ln, lw, ⟨k0, k1, k2, k3, k4, k5⟩, kf, kB⟩ := hcut
    have hqo := hq.out
    have hro := hr.out
    by_cases c1 : q2 < q1
    · have c1' : min q1 q2 = q2 := by omega
      by_cases c2 : r1 < r2
      · have c2' : max r1 r2 = r2 := by omega
        rw [c1'] at hqo
        rw [c2'] at hro
        subst hqo hro
        clear hq hr
        go_wp2
        refine bodyPost_ret (v := .tuple #[.agg #[.int .i64 q2, .int .i64 r2], .int .i64 0]) (by simp [results, Try.results46, go_sem, World.cell?_alloc_past, *]) rfl ⟨rfl, ?_⟩
        (repeat (first | (with_reducible refine Below.drew ?_) | (with_reducible refine below_drewN ?_ _) | (with_reducible refine Below.alloc ?_ (by first | omega | (simp; done) | (simp; omega) | (simp at *; omega)) _) | (with_reducible refine Below.setCell ?_ (by first | omega | (simp; done) | (simp; omega) | (simp at *; omega)) _) | (with_reducible exact Below.refl _ _) | (with_reducible assumption) | (with_reducible refine Below.trans ?_ (Below.mono (by assumption) (by first | omega | (simp; done) | (simp; omega) | (simp at *; omega))))))
      · have c2' : max r1 r2 = r1 := by omega
        rw [c1'] at hqo
        rw [c2'] at hro
        subst hqo hro
        clear hq hr
        go_wp2
        refine bodyPost_ret (v := .tuple #[.agg #[.int .i64 q2, .int .i64 r1], .int .i64 0]) (by simp [results, Try.results46, go_sem, World.cell?_alloc_past, *]) rfl ⟨rfl, ?_⟩
        (repeat (first | (with_reducible refine Below.drew ?_) | (with_reducible refine below_drewN ?_ _) | (with_reducible refine Below.alloc ?_ (by first | omega | (simp; done) | (simp; omega) | (simp at *; omega)) _) | (with_reducible refine Below.setCell ?_ (by first | omega | (simp; done) | (simp; omega) | (simp at *; omega)) _) | (with_reducible exact Below.refl _ _) | (with_reducible assumption) | (with_reducible refine Below.trans ?_ (Below.mono (by assumption) (by first | omega | (simp; done) | (simp; omega) | (simp at *; omega))))))
    · have c1' : min q1 q2 = q1 := by omega
      by_cases c2 : r1 < r2
      · have c2' : max r1 r2 = r2 := by omega
        rw [c1'] at hqo
        rw [c2'] at hro
        subst hqo hro
        clear hq hr
        go_wp2
        refine bodyPost_ret (v := .tuple #[.agg #[.int .i64 q1, .int .i64 r2], .int .i64 0]) (by simp [results, Try.results46, go_sem, World.cell?_alloc_past, *]) rfl ⟨rfl, ?_⟩
        (repeat (first | (with_reducible refine Below.drew ?_) | (with_reducible refine below_drewN ?_ _) | (with_reducible refine Below.alloc ?_ (by first | omega | (simp; done) | (simp; omega) | (simp at *; omega)) _) | (with_reducible refine Below.setCell ?_ (by first | omega | (simp; done) | (simp; omega) | (simp at *; omega)) _) | (with_reducible exact Below.refl _ _) | (with_reducible assumption) | (with_reducible refine Below.trans ?_ (Below.mono (by assumption) (by first | omega | (simp; done) | (simp; omega) | (simp at *; omega))))))
      · have c2' : max r1 r2 = r1 := by omega
        rw [c1'] at hqo
        rw [c2'] at hro
        subst hqo hro
        clear hq hr
        go_wp2
        refine bodyPost_ret (v := .tuple #[.agg #[.int .i64 q1, .int .i64 r1], .int .i64 0]) (by simp [results, Try.results46, go_sem, World.cell?_alloc_past, *]) rfl ⟨rfl, ?_⟩
        (repeat (first | (with_reducible refine Below.drew ?_) | (with_reducible refine below_drewN ?_ _) | (with_reducible refine Below.alloc ?_ (by first | omega | (simp; done) | (simp; omega) | (simp at *; omega)) _) | (with_reducible refine Below.setCell ?_ (by first | omega | (simp; done) | (simp; omega) | (simp at *; omega)) _) | (with_reducible exact Below.refl _ _) | (with_reducible assumption) | (with_reducible refine Below.trans ?_ (Below.mono (by assumption) (by first | omega | (simp; done) | (simp; omega) | (simp at *; omega))))))
end Go.Proofs.Ytjkhjjmmkdfjmaa
