/- What mix.FactorAt returns. -/
import Derived.Test.YtjkhjjmmkdfjmaaFFac
import Derived.Test.YtjkhjjmmkdfjmaaFRatio
import Derived.Outline
namespace Go.Proofs.Ytjkhjjmmkdfjmaa
open Go.ChangeShapes Go.WideShapes Go.ChangeAt Go.RowKit
set_option linter.unusedVariables false
set_option linter.unusedSimpArgs false
attribute [local go_sem ↓] Go.wp_at_zero Go.wp_at_succ
/-- The number of the first row whose pressure is not less; the factor between two rows, at a pressure. -/
def fix (x : Int) : List Fc → Nat
  | [] => 0
  | g :: r => if x ≤ g.p then 0 else fix x r + 1
theorem fix_below {x : Int} {L : List Fc} : ∀ j, (hj : j < fix x L) → (hl : j < L.length) → L[j].p < x := by
  induction L with
  | nil => intro j hj hl; simp at hl
  | cons g r ih =>
    intro j hj hl
    unfold fix at hj
    by_cases h : x ≤ g.p
    · rw [if_pos h] at hj; omega
    · rw [if_neg h] at hj
      cases j with
      | zero => simpa using h
      | succ j => simpa using ih j (by omega) (by simpa using hl)
theorem fix_at {x : Int} {L : List Fc} (hl : fix x L < L.length) : x ≤ (L[fix x L]'hl).p := by
  induction L with
  | nil => simp at hl
  | cons g r ih =>
    unfold fix at hl ⊢
    by_cases h : x ≤ g.p
    · simp [h]
    · simp only [h, if_false, List.length_cons] at hl ⊢
      simpa [h] using ih (by omega)
theorem fix_le {x : Int} {L : List Fc} {k : Nat} (hk : k < L.length) (h : x ≤ L[k].p) : fix x L ≤ k := by
  refine Nat.not_lt.1 fun hlt => ?_
  have := fix_below k hlt hk
  omega
def midL (a b : Fc) (x : Int) : Int := (a.l * (b.p - x) + b.l * (x - a.p)) / (b.p - a.p)
def midU (a b : Fc) (x : Int) : Int := upI (a.u * (b.p - x) + b.u * (x - a.p)) (b.p - a.p)
/-- The factor at a pressure. -/
def fcG (L : List Fc) (i : Nat) : Fc := L.getD i ⟨0, 0, 0⟩
def facL (L : List Fc) (x : Int) : Int := if (fcG L (fix x L)).p = x then (fcG L (fix x L)).l else midL (fcG L (fix x L - 1)) (fcG L (fix x L)) x
def facU (L : List Fc) (x : Int) : Int := if (fcG L (fix x L)).p = x then (fcG L (fix x L)).u else midU (fcG L (fix x L - 1)) (fcG L (fix x L)) x
theorem fcG_at {L : List Fc} {i : Nat} (h : i < L.length) : fcG L i = L[i] := by unfold fcG; simp [h]
theorem geq_any (p l u x : Int) (c : Nat) (w : World) (hc : w.cell? ⟨c, 0, none⟩ = some (.int .i64 x)) (hlt : c < w.heap.size) : Calls Try.prog 83 #[.agg #[.int .i64 p, .int .i64 l, .int .i64 u], .pointer (some ⟨c, 0, none⟩)] w fun e w' => e = .returned (.bool (decide (x ≤ p))) ∧ Below w.heap.size w w' := by
  have n1 : c ≠ w.heap.size := by omega
  go_enter Try.func83, Try.ntmps83
  go_wp2
  go_ret
  exact ⟨rfl, (by (repeat (first | (with_reducible refine Below.drew ?_) | (with_reducible refine below_drewN ?_ _) | (with_reducible refine Below.alloc ?_ (by first | omega | (simp; done) | (simp; omega) | (simp at *; omega)) _) | (with_reducible refine Below.setCell ?_ (by first | omega | (simp; done) | (simp; omega) | (simp at *; omega)) _) | (with_reducible exact Below.refl _ _) | (with_reducible assumption) | (with_reducible refine Below.trans ?_ (Below.mono (by assumption) (by first | omega | (simp; done) | (simp; omega) | (simp at *; omega)))))))⟩
set_option maxHeartbeats 1000000 in
theorem indexFac_any (L : List Fc) (b off cap c : Nat) (x : Int) (w : World) (hl : L.length ≤ 1000000) (hlt : b < w.heap.size) (hL : RowsAt fcV 3 w b off L) (hc : w.cell? ⟨c, 0, none⟩ = some (.int .i64 x)) (hcl : c < w.heap.size) (n : Nat) (hn : n = L.length) (i : Nat) (hi : Hid (fix x L = i)) (hin : i < n) :
    Calls Try.prog 82 #[.slice (some ⟨b, off, none⟩) n cap, .func (.func 83) #[] #[.pointer (some ⟨c, 0, none⟩)]] w fun e w' => e = .returned (.int .i64 i) ∧ Below w.heap.size w w' := by
  have HP := Lib.hid hL
  have HC := Lib.hid hc
  have HN := Lib.hid hn
  have hl2 : n ≤ 1000000 := by omega
  clear hL hc hn hl
  go_enter Try.func82, Try.ntmps82
  go_wp2
  go_loopw [8] (fun j wr => ∃ k : Nat, k ≤ i ∧ j = .int .i64 k ∧ Below w.heap.size w wr) (fun j _ => n - (intOf j).toNat)
  case atStart => exact ⟨0, by omega, rfl, Below.refl _ _⟩
  case round =>
    obtain ⟨k, hk, rfl, hB⟩ := hrel
    have hsz := hB.size
    have hkn : k < n := by omega
    have hkl : k < L.length := by have := HN.out; omega
    obtain ⟨c0, c1, c2⟩ := fc_at (HP.out.below hB hlt) hkl
    have cc : wr.cell? ⟨c, 0, none⟩ = some (.int .i64 x) := (hB.cell (p := ⟨c, 0, none⟩) hcl).trans HC.out
    obtain ⟨p0, h0⟩ : ∃ x, Hid (L[k].p = x) := ⟨L[k].p, Lib.hid rfl⟩
    obtain ⟨p1, h1⟩ : ∃ x, Hid (L[k].l = x) := ⟨L[k].l, Lib.hid rfl⟩
    obtain ⟨p2, h2⟩ : ∃ x, Hid (L[k].u = x) := ⟨L[k].u, Lib.hid rfl⟩
    rw [h0.out] at c0
    rw [h1.out] at c1
    rw [h2.out] at c2
    have lc : c < wr.heap.size := by omega
    have kn : (k : Int) < (n : Int) := by omega
    by_cases hx : x ≤ p0
    · have hd : decide (x ≤ p0) = true := by simpa using hx
      have hki : Hid (k = i) := by
        have := fix_le hkl (x := x) (by rw [h0.out]; exact hx)
        rw [hi.out] at this
        exact Lib.hid (by omega)
      go_wp2_with fail
      refine (geq_any p0 p1 p2 x c _ cc lc).mono ?_
      rintro e w1 ⟨rfl, hb1⟩
      go_wp2
      go_ret
      exact ⟨ret_int (by rw [hki.out]), (by (repeat (first | (with_reducible refine Below.drew ?_) | (with_reducible refine below_drewN ?_ _) | (with_reducible refine Below.alloc ?_ (by first | omega | (simp; done) | (simp; omega) | (simp at *; omega)) _) | (with_reducible refine Below.setCell ?_ (by first | omega | (simp; done) | (simp; omega) | (simp at *; omega)) _) | (with_reducible exact Below.refl _ _) | (with_reducible assumption) | (with_reducible refine Below.trans ?_ (Below.mono (by assumption) (by first | omega | (simp; done) | (simp; omega) | (simp at *; omega)))))))⟩
    · have hd : decide (x ≤ p0) = false := by simpa using hx
      have hki : k + 1 ≤ i := by
        have h3 : k ≠ i := fun e => by
          have := fix_at (x := x) (L := L) (by rw [hi.out]; omega)
          simp only [hi.out] at this
          subst e
          rw [h0.out] at this
          exact hx this
        omega
      go_wp2_with fail
      refine (geq_any p0 p1 p2 x c _ cc lc).mono ?_
      rintro e w1 ⟨rfl, hb1⟩
      go_wp2
      go_roundw
      case rel => exact ⟨k + 1, hki, by go_num, (by (repeat (first | (with_reducible refine Below.drew ?_) | (with_reducible refine below_drewN ?_ _) | (with_reducible refine Below.alloc ?_ (by first | omega | (simp; done) | (simp; omega) | (simp at *; omega)) _) | (with_reducible refine Below.setCell ?_ (by first | omega | (simp; done) | (simp; omega) | (simp at *; omega)) _) | (with_reducible exact Below.refl _ _) | (with_reducible assumption) | (with_reducible refine Below.trans ?_ (Below.mono (by assumption) (by first | omega | (simp; done) | (simp; omega) | (simp at *; omega)))))))⟩
      case measure => simp [intOf]; omega
theorem mean_any (f g bp x ap n d : Int) (b c a : Nat) (w : World) (hb : w.cell? ⟨b, 0, none⟩ = some (.int .i64 bp)) (hc : w.cell? ⟨c, 0, none⟩ = some (.int .i64 x)) (ha : w.cell? ⟨a, 0, none⟩ = some (.int .i64 ap)) (lb : b < w.heap.size) (lc : c < w.heap.size) (la : a < w.heap.size)
    (f0 : 0 ≤ f) (f1 : f ≤ 2000) (g0 : 0 ≤ g) (g1 : g ≤ 2000) (a0 : 0 ≤ ap) (ax : ap ≤ x) (xb : x ≤ bp) (b1 : bp ≤ 400000) (hn : Hid (f * (bp - x) + g * (x - ap) = n)) (hd : Hid (bp - ap = d)) :
    Calls Try.prog 108 #[.int .i64 f, .int .i64 g, .pointer (some ⟨b, 0, none⟩), .pointer (some ⟨c, 0, none⟩), .pointer (some ⟨a, 0, none⟩)] w fun e w' => e = .returned (.agg #[.int .i64 n, .int .i64 d]) ∧ Below w.heap.size w w' := by
  have n1 : b ≠ w.heap.size := by omega
  have n2 : c ≠ w.heap.size := by omega
  have n3 : a ≠ w.heap.size := by omega
  obtain ⟨u, hu⟩ : ∃ z, Hid (bp - x = z) := ⟨_, Lib.hid rfl⟩
  obtain ⟨v, hv⟩ : ∃ z, Hid (x - ap = z) := ⟨_, Lib.hid rfl⟩
  have w1 : IntKind.i64.wrap (bp - x) = u := by rw [← hu.out]; exact IntWalk.i64_in _ (by omega)
  have w2 : IntKind.i64.wrap (x - ap) = v := by rw [← hv.out]; exact IntWalk.i64_in _ (by omega)
  have w3 : IntKind.i64.wrap (bp - ap) = d := by rw [← hd.out]; exact IntWalk.i64_in _ (by omega)
  have u0 : 0 ≤ u ∧ u ≤ 400000 := by rw [← hu.out]; omega
  have v0 : 0 ≤ v ∧ v ≤ 400000 := by rw [← hv.out]; omega
  have fu : 0 ≤ f * u ∧ f * u ≤ 800000000 := ⟨Int.mul_nonneg f0 u0.1, Int.le_trans (Int.mul_le_mul f1 u0.2 u0.1 (by omega)) (by omega)⟩
  have gv : 0 ≤ g * v ∧ g * v ≤ 800000000 := ⟨Int.mul_nonneg g0 v0.1, Int.le_trans (Int.mul_le_mul g1 v0.2 v0.1 (by omega)) (by omega)⟩
  obtain ⟨P, hP⟩ : ∃ z, Hid (f * u = z) := ⟨_, Lib.hid rfl⟩
  obtain ⟨Q, hQ⟩ : ∃ z, Hid (g * v = z) := ⟨_, Lib.hid rfl⟩
  rw [hP.out] at fu
  rw [hQ.out] at gv
  have w4 : IntKind.i64.wrap (f * u) = P := by rw [hP.out]; exact IntWalk.i64_in _ (by omega)
  have w5 : IntKind.i64.wrap (g * v) = Q := by rw [hQ.out]; exact IntWalk.i64_in _ (by omega)
  have e6 : P + Q = n := by rw [← hP.out, ← hQ.out, ← hu.out, ← hv.out]; exact hn.out
  have w6 : IntKind.i64.wrap (P + Q) = n := by rw [e6]; exact IntWalk.i64_in _ (by omega)
  have e1 : bp - x = u := hu.out
  have e2 : x - ap = v := hv.out
  have e3 : bp - ap = d := hd.out
  clear hn hu hv hd hP hQ
  go_enter Try.func108, Try.ntmps108
  go_wp2
  refine bodyPost_ret (v := .agg #[.int .i64 n, .int .i64 d]) (by simp [results, Try.results108, go_sem, *]) rfl ⟨rfl, ?_⟩
  (repeat (first | (with_reducible refine Below.drew ?_) | (with_reducible refine below_drewN ?_ _) | (with_reducible refine Below.alloc ?_ (by first | omega | (simp; done) | (simp; omega) | (simp at *; omega)) _) | (with_reducible refine Below.setCell ?_ (by first | omega | (simp; done) | (simp; omega) | (simp at *; omega)) _) | (with_reducible exact Below.refl _ _) | (with_reducible assumption) | (with_reducible refine Below.trans ?_ (Below.mono (by assumption) (by first | omega | (simp; done) | (simp; omega) | (simp at *; omega))))))
set_option maxHeartbeats 2000000 in
set_option maxRecDepth 100000 in
theorem between_any (ap al au bp bl bu x n m d q r : Int) (w : World) (a0 : 0 ≤ ap) (ax : ap ≤ x) (xb : x ≤ bp) (ab : ap < bp) (b1 : bp ≤ 400000) (al0 : 0 ≤ al) (al1 : al ≤ 2000) (au0 : 0 ≤ au) (au1 : au ≤ 2000) (bl0 : 0 ≤ bl) (bl1 : bl ≤ 2000) (bu0 : 0 ≤ bu) (bu1 : bu ≤ 2000)
    (hn : Hid (al * (bp - x) + bl * (x - ap) = n)) (hm : Hid (au * (bp - x) + bu * (x - ap) = m)) (hd : Hid (bp - ap = d)) (n0 : 0 ≤ n) (n1 : n ≤ 4000000000) (m0 : 0 ≤ m) (m1 : m ≤ 4000000000) (d0 : 1 ≤ d) (d1 : d ≤ 400000) (hq : Hid (n / d = q)) (hr : Hid (upI m d = r)) :
    Calls Try.prog 84 #[.agg #[.int .i64 ap, .int .i64 al, .int .i64 au], .agg #[.int .i64 bp, .int .i64 bl, .int .i64 bu], .int .i64 x] w fun e w' => e = .returned (.agg #[.int .i64 q, .int .i64 r]) ∧ Below w.heap.size w w' := by
  go_enter Try.func84, Try.ntmps84
  go_upto_region 2 with (fail)
  refine wp_region_held_drew (S := (fun w' => w'.cell? ⟨w.heap.size, 0, none⟩ = some (.int .i64 ap) ∧ w'.cell? ⟨w.heap.size, 1, none⟩ = some (.int .i64 al) ∧ w'.cell? ⟨w.heap.size, 2, none⟩ = some (.int .i64 au) ∧ w'.cell? ⟨w.heap.size + 1, 0, none⟩ = some (.int .i64 bp) ∧ w'.cell? ⟨w.heap.size + 1, 1, none⟩ = some (.int .i64 bl) ∧ w'.cell? ⟨w.heap.size + 1, 2, none⟩ = some (.int .i64 bu) ∧ w'.cell? ⟨w.heap.size + 1 + 1, 0, none⟩ = some (.int .i64 x))) (by kernel_rfl) (by simp [go_sem, World.cell?_alloc_past, *]) (fun hHeld => ?_)
  refine tkH 0 ⟨some 9, _, _, _, _, _⟩ ?_ rfl ?_ (by assumption) ?_
  rotate_left
  · (intro w hSw; (try dsimp only at hSw); go_simp; all_goals with_reducible rfl)
  try simp only [Act.put, sA, sB, sC]
  refine tkH 1 ⟨some 10, _, _, _, _, _⟩ ?_ rfl ?_ (by assumption) ?_
  rotate_left
  · (intro w hSw; (try dsimp only at hSw); go_simp; all_goals with_reducible rfl)
  try simp only [Act.put, sA, sB, sC]
  refine tkH 2 ⟨some 11, _, _, _, _, _⟩ ?_ rfl ?_ (by assumption) ?_
  rotate_left
  · (intro w hSw; (try dsimp only at hSw); go_simp; all_goals with_reducible rfl)
  try simp only [Act.put, sA, sB, sC]
  refine tkH 3 ⟨some 12, _, _, _, _, _⟩ ?_ rfl ?_ (by assumption) ?_
  rotate_left
  · (intro w hSw; (try dsimp only at hSw); go_simp; all_goals with_reducible rfl)
  try simp only [Act.put, sA, sB, sC]
  refine tkH 4 ⟨some 13, _, _, _, _, _⟩ ?_ rfl ?_ (by assumption) ?_
  rotate_left
  · (intro w hSw; (try dsimp only at hSw); go_simp; all_goals with_reducible rfl)
  try simp only [Act.put, sA, sB, sC]
  refine tkH 5 ⟨some 14, _, _, _, _, _⟩ ?_ rfl ?_ (by assumption) ?_
  rotate_left
  · (intro w hSw; (try dsimp only at hSw); go_simp; all_goals with_reducible rfl)
  try simp only [Act.put, sA, sB, sC]
  refine tkH 6 ⟨some 15, _, _, _, _, _⟩ ?_ rfl ?_ (by assumption) ?_
  rotate_left
  · (intro w hSw; (try dsimp only at hSw); go_simp; all_goals with_reducible rfl)
  try simp only [Act.put, sA, sB, sC]
  refine tkH 9 ⟨some 18, _, _, _, _, _⟩ ?_ rfl ?_ (by assumption) ?_
  rotate_left
  · (intro w hSw; (try dsimp only at hSw); go_simp; all_goals with_reducible rfl)
  try simp only [Act.put, sA, sB, sC]
  refine tkH 10 ⟨some 19, _, _, _, _, _⟩ ?_ rfl ?_ (by assumption) ?_
  rotate_left
  · (intro w hSw; (try dsimp only at hSw); go_simp; all_goals with_reducible rfl)
  try simp only [Act.put, sA, sB, sC]
  refine tkH 11 ⟨some 20, _, _, _, _, _⟩ ?_ rfl ?_ (by assumption) ?_
  rotate_left
  · (intro w hSw; (try dsimp only at hSw); go_simp; all_goals with_reducible rfl)
  try simp only [Act.put, sA, sB, sC]
  refine tkH 12 ⟨some 21, _, _, _, _, _⟩ ?_ rfl ?_ (by assumption) ?_
  rotate_left
  · (intro w hSw; (try dsimp only at hSw); go_simp; all_goals with_reducible rfl)
  try simp only [Act.put, sA, sB, sC]
  refine tkH 13 ⟨some 22, _, _, _, _, _⟩ ?_ rfl ?_ (by assumption) ?_
  rotate_left
  · (intro w hSw; (try dsimp only at hSw); go_simp; all_goals with_reducible rfl)
  try simp only [Act.put, sA, sB, sC]
  refine tkH 14 ⟨some 23, _, _, _, _, _⟩ ?_ rfl ?_ (by assumption) ?_
  rotate_left
  · (intro w hSw; (try dsimp only at hSw); go_simp; all_goals with_reducible rfl)
  try simp only [Act.put, sA, sB, sC]
  refine tkH 15 ⟨some 24, _, _, _, _, _⟩ ?_ rfl ?_ (by assumption) ?_
  rotate_left
  · (intro w hSw; (try dsimp only at hSw); go_simp; all_goals with_reducible rfl)
  try simp only [Act.put, sA, sB, sC]
  refine wpAnyH_ready (rs := [7]) (by kernel_rfl) (by simp) ?_
  refine AllReadyH.cons rfl (fun K hK => ?_) AllReadyH.nil
  go_simp
  refine (mean_any al bl bp x ap n d _ _ _ _ (by simp [go_sem, World.cell?_alloc_past, *]) (by simp [go_sem, World.cell?_alloc_past, *]) (by simp [go_sem, World.cell?_alloc_past, *]) (by first | omega | (simp; omega) | (simp; done)) (by first | omega | (simp; omega) | (simp; done)) (by first | omega | (simp; omega) | (simp; done)) al0 al1 bl0 bl1 a0 ax xb b1 hn hd).mono ?_
  rintro e xw1 ⟨rfl, hbx1⟩
  have zx1 := hbx1.size
  try simp at zx1
  obtain ⟨x1_0_0, x1_0_1, x1_0_2, x1_1_0, x1_1_1, x1_1_2, x1_2_0, x1_3_0, x1_3_1⟩ : xw1.cell? ⟨w.heap.size, 0, none⟩ = some (.int .i64 ap) ∧ xw1.cell? ⟨w.heap.size, 1, none⟩ = some (.int .i64 al) ∧ xw1.cell? ⟨w.heap.size, 2, none⟩ = some (.int .i64 au) ∧ xw1.cell? ⟨w.heap.size + 1, 0, none⟩ = some (.int .i64 bp) ∧ xw1.cell? ⟨w.heap.size + 1, 1, none⟩ = some (.int .i64 bl) ∧ xw1.cell? ⟨w.heap.size + 1, 2, none⟩ = some (.int .i64 bu) ∧ xw1.cell? ⟨w.heap.size + 1 + 1, 0, none⟩ = some (.int .i64 x) ∧ xw1.cell? ⟨w.heap.size + 1 + 1 + 1, 0, none⟩ = some (.int .i64 0) ∧ xw1.cell? ⟨w.heap.size + 1 + 1 + 1, 1, none⟩ = some (.int .i64 0) := by refine ⟨?_, ?_, ?_, ?_, ?_, ?_, ?_, ?_, ?_⟩ <;> (rw [(bcell hbx1).1 _ _ (by first | (simp; done) | (simp; omega) | omega)]; simp [go_sem, World.cell?_alloc_past, *])
  have x1f3 : (∀ j, xw1.frozen? ⟨w.heap.size + 1 + 1 + 1, j, none⟩ = false) := by (intro j; rw [(bcell hbx1).2 _ _ (by first | (simp; done) | (simp; omega) | omega)]; simp [go_sem, *])
  obtain ⟨x1o0, x1n0, x1m0, x1t0_0, x1o1, x1n1, x1m1, x1t1_0, x1o2, x1n2, x1m2, x1t2_0, x1o3, x1n3, x1m3, x1t3_0⟩ : w.heap.size < xw1.heap.size ∧ xw1.heap.size ≠ w.heap.size ∧ w.heap.size ≠ xw1.heap.size ∧ w.heap.size < xw1.heap.size + 1 ∧ w.heap.size + 1 < xw1.heap.size ∧ xw1.heap.size ≠ w.heap.size + 1 ∧ w.heap.size + 1 ≠ xw1.heap.size ∧ w.heap.size + 1 < xw1.heap.size + 1 ∧ w.heap.size + 1 + 1 < xw1.heap.size ∧ xw1.heap.size ≠ w.heap.size + 1 + 1 ∧ w.heap.size + 1 + 1 ≠ xw1.heap.size ∧ w.heap.size + 1 + 1 < xw1.heap.size + 1 ∧ w.heap.size + 1 + 1 + 1 < xw1.heap.size ∧ xw1.heap.size ≠ w.heap.size + 1 + 1 + 1 ∧ w.heap.size + 1 + 1 + 1 ≠ xw1.heap.size ∧ w.heap.size + 1 + 1 + 1 < xw1.heap.size + 1 := by refine ⟨?_, ?_, ?_, ?_, ?_, ?_, ?_, ?_, ?_, ?_, ?_, ?_, ?_, ?_, ?_, ?_⟩ <;> omega
  have hBx1 : Below w.heap.size w xw1 := (by (repeat (first | (with_reducible refine Below.drew ?_) | (with_reducible refine below_drewN ?_ _) | (with_reducible refine Below.alloc ?_ (by first | omega | (simp; done) | (simp; omega) | (simp at *; omega)) _) | (with_reducible refine Below.setCell ?_ (by first | omega | (simp; done) | (simp; omega) | (simp at *; omega)) _) | (with_reducible exact Below.refl _ _) | (with_reducible assumption) | (with_reducible refine Below.trans ?_ (Below.mono (by assumption) (by first | omega | (simp; done) | (simp; omega) | (simp at *; omega)))))))
  clear hbx1 
  go_wp2_with fail
  refine hK.out _ _ (by simp [go_sem, World.cell?_alloc_past, *]) (fun hHeld => ?_)
  clear hK K
  try simp only [Act.put, sA, sB, sC]
  refine wpAnyH_ready (rs := [8]) (by kernel_rfl) (by simp) ?_
  refine AllReadyH.cons rfl (fun K hK => ?_) AllReadyH.nil
  go_simp
  refine (down_any n d q _ d0 (by omega) (by omega) (by omega) hq).mono ?_
  rintro e xw2 ⟨rfl, hbx2⟩
  have zx2 := hbx2.size
  try simp at zx2
  obtain ⟨x2_0_0, x2_0_1, x2_0_2, x2_1_0, x2_1_1, x2_1_2, x2_2_0, x2_3_0, x2_3_1⟩ : xw2.cell? ⟨w.heap.size, 0, none⟩ = some (.int .i64 ap) ∧ xw2.cell? ⟨w.heap.size, 1, none⟩ = some (.int .i64 al) ∧ xw2.cell? ⟨w.heap.size, 2, none⟩ = some (.int .i64 au) ∧ xw2.cell? ⟨w.heap.size + 1, 0, none⟩ = some (.int .i64 bp) ∧ xw2.cell? ⟨w.heap.size + 1, 1, none⟩ = some (.int .i64 bl) ∧ xw2.cell? ⟨w.heap.size + 1, 2, none⟩ = some (.int .i64 bu) ∧ xw2.cell? ⟨w.heap.size + 1 + 1, 0, none⟩ = some (.int .i64 x) ∧ xw2.cell? ⟨w.heap.size + 1 + 1 + 1, 0, none⟩ = some (.int .i64 0) ∧ xw2.cell? ⟨w.heap.size + 1 + 1 + 1, 1, none⟩ = some (.int .i64 0) := by refine ⟨?_, ?_, ?_, ?_, ?_, ?_, ?_, ?_, ?_⟩ <;> (rw [(bcell hbx2).1 _ _ (by first | (simp; done) | (simp; omega) | omega)]; simp [go_sem, World.cell?_alloc_past, *])
  have x2f3 : (∀ j, xw2.frozen? ⟨w.heap.size + 1 + 1 + 1, j, none⟩ = false) := by (intro j; rw [(bcell hbx2).2 _ _ (by first | (simp; done) | (simp; omega) | omega)]; simp [go_sem, *])
  obtain ⟨x2o0, x2n0, x2m0, x2t0_0, x2o1, x2n1, x2m1, x2t1_0, x2o2, x2n2, x2m2, x2t2_0, x2o3, x2n3, x2m3, x2t3_0⟩ : w.heap.size < xw2.heap.size ∧ xw2.heap.size ≠ w.heap.size ∧ w.heap.size ≠ xw2.heap.size ∧ w.heap.size < xw2.heap.size + 1 ∧ w.heap.size + 1 < xw2.heap.size ∧ xw2.heap.size ≠ w.heap.size + 1 ∧ w.heap.size + 1 ≠ xw2.heap.size ∧ w.heap.size + 1 < xw2.heap.size + 1 ∧ w.heap.size + 1 + 1 < xw2.heap.size ∧ xw2.heap.size ≠ w.heap.size + 1 + 1 ∧ w.heap.size + 1 + 1 ≠ xw2.heap.size ∧ w.heap.size + 1 + 1 < xw2.heap.size + 1 ∧ w.heap.size + 1 + 1 + 1 < xw2.heap.size ∧ xw2.heap.size ≠ w.heap.size + 1 + 1 + 1 ∧ w.heap.size + 1 + 1 + 1 ≠ xw2.heap.size ∧ w.heap.size + 1 + 1 + 1 < xw2.heap.size + 1 := by refine ⟨?_, ?_, ?_, ?_, ?_, ?_, ?_, ?_, ?_, ?_, ?_, ?_, ?_, ?_, ?_, ?_⟩ <;> omega
  have hBx2 : Below w.heap.size w xw2 := (by (repeat (first | (with_reducible refine Below.drew ?_) | (with_reducible refine below_drewN ?_ _) | (with_reducible refine Below.alloc ?_ (by first | omega | (simp; done) | (simp; omega) | (simp at *; omega)) _) | (with_reducible refine Below.setCell ?_ (by first | omega | (simp; done) | (simp; omega) | (simp at *; omega)) _) | (with_reducible exact Below.refl _ _) | (with_reducible assumption) | (with_reducible refine Below.trans ?_ (Below.mono (by assumption) (by first | omega | (simp; done) | (simp; omega) | (simp at *; omega)))))))
  clear hbx2 x1_0_0 x1_0_1 x1_0_2 x1_1_0 x1_1_1 x1_1_2 x1_2_0 x1_3_0 x1_3_1 x1f3 x1o0 x1n0 x1m0 x1t0_0 x1o1 x1n1 x1m1 x1t1_0 x1o2 x1n2 x1m2 x1t2_0 x1o3 x1n3 x1m3 x1t3_0 hBx1
  go_wp2_with fail
  refine hK.out _ _ (by simp [go_sem, World.cell?_alloc_past, *]) (fun hHeld => ?_)
  clear hK K
  try simp only [Act.put, sA, sB, sC]
  refine wpAnyH_ready (rs := [16]) (by kernel_rfl) (by simp) ?_
  refine AllReadyH.cons rfl (fun K hK => ?_) AllReadyH.nil
  go_simp
  refine (mean_any au bu bp x ap m d _ _ _ _ (by simp [go_sem, World.cell?_alloc_past, *]) (by simp [go_sem, World.cell?_alloc_past, *]) (by simp [go_sem, World.cell?_alloc_past, *]) (by first | omega | (simp; omega) | (simp; done)) (by first | omega | (simp; omega) | (simp; done)) (by first | omega | (simp; omega) | (simp; done)) au0 au1 bu0 bu1 a0 ax xb b1 hm hd).mono ?_
  rintro e xw3 ⟨rfl, hbx3⟩
  have zx3 := hbx3.size
  try simp at zx3
  obtain ⟨x3_0_0, x3_0_1, x3_0_2, x3_1_0, x3_1_1, x3_1_2, x3_2_0, x3_3_0, x3_3_1⟩ : xw3.cell? ⟨w.heap.size, 0, none⟩ = some (.int .i64 ap) ∧ xw3.cell? ⟨w.heap.size, 1, none⟩ = some (.int .i64 al) ∧ xw3.cell? ⟨w.heap.size, 2, none⟩ = some (.int .i64 au) ∧ xw3.cell? ⟨w.heap.size + 1, 0, none⟩ = some (.int .i64 bp) ∧ xw3.cell? ⟨w.heap.size + 1, 1, none⟩ = some (.int .i64 bl) ∧ xw3.cell? ⟨w.heap.size + 1, 2, none⟩ = some (.int .i64 bu) ∧ xw3.cell? ⟨w.heap.size + 1 + 1, 0, none⟩ = some (.int .i64 x) ∧ xw3.cell? ⟨w.heap.size + 1 + 1 + 1, 0, none⟩ = some (.int .i64 0) ∧ xw3.cell? ⟨w.heap.size + 1 + 1 + 1, 1, none⟩ = some (.int .i64 0) := by refine ⟨?_, ?_, ?_, ?_, ?_, ?_, ?_, ?_, ?_⟩ <;> (rw [(bcell hbx3).1 _ _ (by first | (simp; done) | (simp; omega) | omega)]; simp [go_sem, World.cell?_alloc_past, *])
  have x3f3 : (∀ j, xw3.frozen? ⟨w.heap.size + 1 + 1 + 1, j, none⟩ = false) := by (intro j; rw [(bcell hbx3).2 _ _ (by first | (simp; done) | (simp; omega) | omega)]; simp [go_sem, *])
  obtain ⟨x3o0, x3n0, x3m0, x3t0_0, x3o1, x3n1, x3m1, x3t1_0, x3o2, x3n2, x3m2, x3t2_0, x3o3, x3n3, x3m3, x3t3_0⟩ : w.heap.size < xw3.heap.size ∧ xw3.heap.size ≠ w.heap.size ∧ w.heap.size ≠ xw3.heap.size ∧ w.heap.size < xw3.heap.size + 1 ∧ w.heap.size + 1 < xw3.heap.size ∧ xw3.heap.size ≠ w.heap.size + 1 ∧ w.heap.size + 1 ≠ xw3.heap.size ∧ w.heap.size + 1 < xw3.heap.size + 1 ∧ w.heap.size + 1 + 1 < xw3.heap.size ∧ xw3.heap.size ≠ w.heap.size + 1 + 1 ∧ w.heap.size + 1 + 1 ≠ xw3.heap.size ∧ w.heap.size + 1 + 1 < xw3.heap.size + 1 ∧ w.heap.size + 1 + 1 + 1 < xw3.heap.size ∧ xw3.heap.size ≠ w.heap.size + 1 + 1 + 1 ∧ w.heap.size + 1 + 1 + 1 ≠ xw3.heap.size ∧ w.heap.size + 1 + 1 + 1 < xw3.heap.size + 1 := by refine ⟨?_, ?_, ?_, ?_, ?_, ?_, ?_, ?_, ?_, ?_, ?_, ?_, ?_, ?_, ?_, ?_⟩ <;> omega
  have hBx3 : Below w.heap.size w xw3 := (by (repeat (first | (with_reducible refine Below.drew ?_) | (with_reducible refine below_drewN ?_ _) | (with_reducible refine Below.alloc ?_ (by first | omega | (simp; done) | (simp; omega) | (simp at *; omega)) _) | (with_reducible refine Below.setCell ?_ (by first | omega | (simp; done) | (simp; omega) | (simp at *; omega)) _) | (with_reducible exact Below.refl _ _) | (with_reducible assumption) | (with_reducible refine Below.trans ?_ (Below.mono (by assumption) (by first | omega | (simp; done) | (simp; omega) | (simp at *; omega)))))))
  clear hbx3 x2_0_0 x2_0_1 x2_0_2 x2_1_0 x2_1_1 x2_1_2 x2_2_0 x2_3_0 x2_3_1 x2f3 x2o0 x2n0 x2m0 x2t0_0 x2o1 x2n1 x2m1 x2t1_0 x2o2 x2n2 x2m2 x2t2_0 x2o3 x2n3 x2m3 x2t3_0 hBx2
  go_wp2_with fail
  refine hK.out _ _ (by simp [go_sem, World.cell?_alloc_past, *]) (fun hHeld => ?_)
  clear hK K
  try simp only [Act.put, sA, sB, sC]
  refine wpAnyH_ready (rs := [17]) (by kernel_rfl) (by simp) ?_
  refine AllReadyH.cons rfl (fun K hK => ?_) AllReadyH.nil
  go_simp
  refine (up_any m d r _ d0 (by omega) (by omega) (by omega) hr).mono ?_
  rintro e xw4 ⟨rfl, hbx4⟩
  have zx4 := hbx4.size
  try simp at zx4
  obtain ⟨x4_0_0, x4_0_1, x4_0_2, x4_1_0, x4_1_1, x4_1_2, x4_2_0, x4_3_0, x4_3_1⟩ : xw4.cell? ⟨w.heap.size, 0, none⟩ = some (.int .i64 ap) ∧ xw4.cell? ⟨w.heap.size, 1, none⟩ = some (.int .i64 al) ∧ xw4.cell? ⟨w.heap.size, 2, none⟩ = some (.int .i64 au) ∧ xw4.cell? ⟨w.heap.size + 1, 0, none⟩ = some (.int .i64 bp) ∧ xw4.cell? ⟨w.heap.size + 1, 1, none⟩ = some (.int .i64 bl) ∧ xw4.cell? ⟨w.heap.size + 1, 2, none⟩ = some (.int .i64 bu) ∧ xw4.cell? ⟨w.heap.size + 1 + 1, 0, none⟩ = some (.int .i64 x) ∧ xw4.cell? ⟨w.heap.size + 1 + 1 + 1, 0, none⟩ = some (.int .i64 0) ∧ xw4.cell? ⟨w.heap.size + 1 + 1 + 1, 1, none⟩ = some (.int .i64 0) := by refine ⟨?_, ?_, ?_, ?_, ?_, ?_, ?_, ?_, ?_⟩ <;> (rw [(bcell hbx4).1 _ _ (by first | (simp; done) | (simp; omega) | omega)]; simp [go_sem, World.cell?_alloc_past, *])
  have x4f3 : (∀ j, xw4.frozen? ⟨w.heap.size + 1 + 1 + 1, j, none⟩ = false) := by (intro j; rw [(bcell hbx4).2 _ _ (by first | (simp; done) | (simp; omega) | omega)]; simp [go_sem, *])
  obtain ⟨x4o0, x4n0, x4m0, x4t0_0, x4o1, x4n1, x4m1, x4t1_0, x4o2, x4n2, x4m2, x4t2_0, x4o3, x4n3, x4m3, x4t3_0⟩ : w.heap.size < xw4.heap.size ∧ xw4.heap.size ≠ w.heap.size ∧ w.heap.size ≠ xw4.heap.size ∧ w.heap.size < xw4.heap.size + 1 ∧ w.heap.size + 1 < xw4.heap.size ∧ xw4.heap.size ≠ w.heap.size + 1 ∧ w.heap.size + 1 ≠ xw4.heap.size ∧ w.heap.size + 1 < xw4.heap.size + 1 ∧ w.heap.size + 1 + 1 < xw4.heap.size ∧ xw4.heap.size ≠ w.heap.size + 1 + 1 ∧ w.heap.size + 1 + 1 ≠ xw4.heap.size ∧ w.heap.size + 1 + 1 < xw4.heap.size + 1 ∧ w.heap.size + 1 + 1 + 1 < xw4.heap.size ∧ xw4.heap.size ≠ w.heap.size + 1 + 1 + 1 ∧ w.heap.size + 1 + 1 + 1 ≠ xw4.heap.size ∧ w.heap.size + 1 + 1 + 1 < xw4.heap.size + 1 := by refine ⟨?_, ?_, ?_, ?_, ?_, ?_, ?_, ?_, ?_, ?_, ?_, ?_, ?_, ?_, ?_, ?_⟩ <;> omega
  have hBx4 : Below w.heap.size w xw4 := (by (repeat (first | (with_reducible refine Below.drew ?_) | (with_reducible refine below_drewN ?_ _) | (with_reducible refine Below.alloc ?_ (by first | omega | (simp; done) | (simp; omega) | (simp at *; omega)) _) | (with_reducible refine Below.setCell ?_ (by first | omega | (simp; done) | (simp; omega) | (simp at *; omega)) _) | (with_reducible exact Below.refl _ _) | (with_reducible assumption) | (with_reducible refine Below.trans ?_ (Below.mono (by assumption) (by first | omega | (simp; done) | (simp; omega) | (simp at *; omega)))))))
  clear hbx4 x3_0_0 x3_0_1 x3_0_2 x3_1_0 x3_1_1 x3_1_2 x3_2_0 x3_3_0 x3_3_1 x3f3 x3o0 x3n0 x3m0 x3t0_0 x3o1 x3n1 x3m1 x3t1_0 x3o2 x3n2 x3m2 x3t2_0 x3o3 x3n3 x3m3 x3t3_0 hBx3
  go_wp2_with fail
  refine hK.out _ _ (by simp [go_sem, World.cell?_alloc_past, *]) (fun hHeld => ?_)
  clear hK K
  try simp only [Act.put, sA, sB, sC]
  refine tkH 18 ⟨some 27, _, _, _, _, _⟩ ?_ rfl ?_ (by assumption) ?_
  rotate_left
  · (intro w hSw; (try dsimp only at hSw); go_simp; all_goals with_reducible rfl)
  try simp only [Act.put, sA, sB, sC]
  refine wpAnyH_ready (rs := [19]) (by kernel_rfl) (by simp) ?_
  refine AllReadyH.cons rfl (fun K hK => ?_) AllReadyH.nil
  go_simp
  go_wp2_with fail
  refine hK.out _ _ (by simp [go_sem, World.cell?_alloc_past, *]) (fun hHeld => ?_)
  clear hK K
  try simp only [Act.put, sA, sB, sC]
  refine wpAnyH_done (by kernel_rfl) ?_ _
  go_wp2
  refine bodyPost_ret (v := .agg #[.int .i64 q, .int .i64 r]) (by simp [results, Try.results84, go_sem, *]) rfl ⟨rfl, ?_⟩
  (repeat (first | (with_reducible refine Below.drew ?_) | (with_reducible refine below_drewN ?_ _) | (with_reducible refine Below.alloc ?_ (by first | omega | (simp; done) | (simp; omega) | (simp at *; omega)) _) | (with_reducible refine Below.setCell ?_ (by first | omega | (simp; done) | (simp; omega) | (simp at *; omega)) _) | (with_reducible exact Below.refl _ _) | (with_reducible assumption) | (with_reducible refine Below.trans ?_ (Below.mono (by assumption) (by first | omega | (simp; done) | (simp; omega) | (simp at *; omega))))))
set_option maxHeartbeats 4000000 in
set_option maxRecDepth 100000 in
theorem FactorAt_bad (L : List Fc) (b off cap N : Nat) (x E : Int) (w : World) (hl : L.length ≤ 1000000) (hlt : b < w.heap.size) (hL : RowsAt fcV 3 w b off L) (hN : Hid (N + 1 = L.length)) (hE : Hid (ctE L = E)) (hz : (E != 0) = true) : Calls Try.prog 44 #[.slice (some ⟨b, off, none⟩) (N + 1 : Nat) cap, .int .i64 x] w fun e w' => e = .returned (.tuple #[.agg #[.int .i64 0, .int .i64 0], .int .i64 E]) ∧ Below w.heap.size w w' := by
  have HP := Lib.hid hL
  have nb : b ≠ w.heap.size := by omega
  have nb1 : b ≠ w.heap.size + 1 := by omega
  have nb2 : w.heap.size ≠ b := by omega
  have nb3 : w.heap.size + 1 ≠ b := by omega
  have hl0 : 0 < L.length := by have := hN.out; omega
  have hlN : N < L.length := by have := hN.out; omega
  have hlN2 : N ≤ 1000000 := by have := hN.out; omega
  have wN : IntKind.i64.wrap (((N + 1 : Nat) : Int) - 1) = (N : Int) := by rw [show ((N + 1 : Nat) : Int) - 1 = (N : Int) by omega]; exact IntWalk.i64_in _ (by omega)
  have wN2 : IntKind.i64.wrap (N : Int) = (N : Int) := IntWalk.i64_in _ (by omega)
  have eN : ((N + 1 : Nat) : Int) = (N : Int) + 1 := by omega
  have eN2 : (0 : Int) ≤ (N : Int) := by omega
  have eN3 : (N : Int) < (N : Int) + 1 := by omega
  have HF := Lib.hid fun w' (hh : SlRows fcV 3 w' (some ⟨b, off, none⟩) L) => (by have := CheckFactors_any L (some ⟨b, off, none⟩) cap E w' hl hh hE; rw [← hN.out] at this; exact this : Calls Try.prog 48 #[.slice (some ⟨b, off, none⟩) (N + 1 : Nat) cap] w' fun e w'' => e = .returned (.int .i64 E) ∧ Below w'.heap.size w' w'')
  clear hL
  go_enter Try.func44, Try.ntmps44
  go_wp2_with fail
  refine (HF.out _ (Or.inr ⟨b, off, rfl, by simp; omega, HP.out.below ((Below.refl w.heap.size w).alloc (Nat.le_refl _) _ |>.alloc (by simp) _) hlt⟩)).mono ?_
  rintro e xw1 ⟨rfl, hbx1⟩
  have zx1 := hbx1.size
  try simp at zx1
  obtain ⟨x1_0_0, x1_1_0, x1_1_1⟩ : xw1.cell? ⟨w.heap.size, 0, none⟩ = some (.int .i64 x) ∧ xw1.cell? ⟨w.heap.size + 1, 0, none⟩ = some (.int .i64 0) ∧ xw1.cell? ⟨w.heap.size + 1, 1, none⟩ = some (.int .i64 0) := by refine ⟨?_, ?_, ?_⟩ <;> (rw [(bcell hbx1).1 _ _ (by first | (simp; done) | (simp; omega) | omega)]; simp [go_sem, World.cell?_alloc_past, *])
  have x1f1 : (∀ j, xw1.frozen? ⟨w.heap.size + 1, j, none⟩ = false) := by (intro j; rw [(bcell hbx1).2 _ _ (by first | (simp; done) | (simp; omega) | omega)]; simp [go_sem, *])
  obtain ⟨x1o0, x1n0, x1m0, x1t0_0, x1t0_1, x1o1, x1n1, x1m1, x1t1_0, x1t1_1⟩ : w.heap.size < xw1.heap.size ∧ xw1.heap.size ≠ w.heap.size ∧ w.heap.size ≠ xw1.heap.size ∧ w.heap.size < xw1.heap.size + 1 ∧ w.heap.size < xw1.heap.size + 1 + 1 ∧ w.heap.size + 1 < xw1.heap.size ∧ xw1.heap.size ≠ w.heap.size + 1 ∧ w.heap.size + 1 ≠ xw1.heap.size ∧ w.heap.size + 1 < xw1.heap.size + 1 ∧ w.heap.size + 1 < xw1.heap.size + 1 + 1 := by refine ⟨?_, ?_, ?_, ?_, ?_, ?_, ?_, ?_, ?_, ?_⟩ <;> omega
  have hBx1 : Below w.heap.size w xw1 := (by (repeat (first | (with_reducible refine Below.drew ?_) | (with_reducible refine below_drewN ?_ _) | (with_reducible refine Below.alloc ?_ (by first | omega | (simp; done) | (simp; omega) | (simp at *; omega)) _) | (with_reducible refine Below.setCell ?_ (by first | omega | (simp; done) | (simp; omega) | (simp at *; omega)) _) | (with_reducible exact Below.refl _ _) | (with_reducible assumption) | (with_reducible refine Below.trans ?_ (Below.mono (by assumption) (by first | omega | (simp; done) | (simp; omega) | (simp at *; omega)))))))
  clear hbx1 
  go_wp2
  refine bodyPost_ret (v := .tuple #[.agg #[.int .i64 0, .int .i64 0], .int .i64 E]) (by simp [results, Try.results44, go_sem, *]) rfl ⟨rfl, ?_⟩
  (repeat (first | (with_reducible refine Below.drew ?_) | (with_reducible refine below_drewN ?_ _) | (with_reducible refine Below.alloc ?_ (by first | omega | (simp; done) | (simp; omega) | (simp at *; omega)) _) | (with_reducible refine Below.setCell ?_ (by first | omega | (simp; done) | (simp; omega) | (simp at *; omega)) _) | (with_reducible exact Below.refl _ _) | (with_reducible assumption) | (with_reducible refine Below.trans ?_ (Below.mono (by assumption) (by first | omega | (simp; done) | (simp; omega) | (simp at *; omega))))))
set_option maxHeartbeats 4000000 in
set_option maxRecDepth 100000 in
theorem FactorAt_far (L : List Fc) (b off cap N : Nat) (x : Int) (w : World) (hl : L.length ≤ 1000000) (hlt : b < w.heap.size) (hL : RowsAt fcV 3 w b off L) (hN : Hid (N + 1 = L.length)) (p0 p9 : Int) (h0 : Hid ((L[0]'(by have := hN.out; omega)).p = p0)) (h9 : Hid ((L[N]'(by have := hN.out; omega)).p = p9)) (hE : Hid (ctE L = 0)) (hr : Hid (rngE x p0 p9 = 2)) : Calls Try.prog 44 #[.slice (some ⟨b, off, none⟩) (N + 1 : Nat) cap, .int .i64 x] w fun e w' => e = .returned (.tuple #[.agg #[.int .i64 0, .int .i64 0], .int .i64 2]) ∧ Below w.heap.size w w' := by
  have HP := Lib.hid hL
  have nb : b ≠ w.heap.size := by omega
  have nb1 : b ≠ w.heap.size + 1 := by omega
  have nb2 : w.heap.size ≠ b := by omega
  have nb3 : w.heap.size + 1 ≠ b := by omega
  have hl0 : 0 < L.length := by have := hN.out; omega
  have hlN : N < L.length := by have := hN.out; omega
  have hlN2 : N ≤ 1000000 := by have := hN.out; omega
  have wN : IntKind.i64.wrap (((N + 1 : Nat) : Int) - 1) = (N : Int) := by rw [show ((N + 1 : Nat) : Int) - 1 = (N : Int) by omega]; exact IntWalk.i64_in _ (by omega)
  have wN2 : IntKind.i64.wrap (N : Int) = (N : Int) := IntWalk.i64_in _ (by omega)
  have eN : ((N + 1 : Nat) : Int) = (N : Int) + 1 := by omega
  have eN2 : (0 : Int) ≤ (N : Int) := by omega
  have eN3 : (N : Int) < (N : Int) + 1 := by omega
  have HF := Lib.hid fun w' (hh : SlRows fcV 3 w' (some ⟨b, off, none⟩) L) => (by have := CheckFactors_any L (some ⟨b, off, none⟩) cap 0 w' hl hh hE; rw [← hN.out] at this; exact this : Calls Try.prog 48 #[.slice (some ⟨b, off, none⟩) (N + 1 : Nat) cap] w' fun e w'' => e = .returned (.int .i64 0) ∧ Below w'.heap.size w' w'')
  have ac0 := (fc_at hL hl0).1
  have zc0 := (fc_at hL hlN).1
  rw [h0.out] at ac0
  rw [h9.out] at zc0
  simp only [Nat.zero_mul, Nat.add_zero] at ac0
  have hr' := hr.out
  clear hL
  go_enter Try.func44, Try.ntmps44
  go_wp2_with fail
  refine (HF.out _ (Or.inr ⟨b, off, rfl, by simp; omega, HP.out.below ((Below.refl w.heap.size w).alloc (Nat.le_refl _) _ |>.alloc (by simp) _) hlt⟩)).mono ?_
  rintro e xw1 ⟨rfl, hbx1⟩
  have zx1 := hbx1.size
  try simp at zx1
  obtain ⟨x1_0_0, x1_1_0, x1_1_1, x1_2_0, x1_3_0⟩ : xw1.cell? ⟨w.heap.size, 0, none⟩ = some (.int .i64 x) ∧ xw1.cell? ⟨w.heap.size + 1, 0, none⟩ = some (.int .i64 0) ∧ xw1.cell? ⟨w.heap.size + 1, 1, none⟩ = some (.int .i64 0) ∧ xw1.cell? ⟨b, off, none⟩ = some (.int .i64 p0) ∧ xw1.cell? ⟨b, off + N * 3, none⟩ = some (.int .i64 p9) := by refine ⟨?_, ?_, ?_, ?_, ?_⟩ <;> (rw [(bcell hbx1).1 _ _ (by first | (simp; done) | (simp; omega) | omega)]; simp [go_sem, World.cell?_alloc_past, *])
  have x1f1 : (∀ j, xw1.frozen? ⟨w.heap.size + 1, j, none⟩ = false) := by (intro j; rw [(bcell hbx1).2 _ _ (by first | (simp; done) | (simp; omega) | omega)]; simp [go_sem, *])
  obtain ⟨x1o0, x1n0, x1m0, x1t0_0, x1t0_1, x1o1, x1n1, x1m1, x1t1_0, x1t1_1, x1o2, x1n2, x1m2, x1t2_0, x1t2_1, x1o3, x1n3, x1m3, x1t3_0, x1t3_1⟩ : w.heap.size < xw1.heap.size ∧ xw1.heap.size ≠ w.heap.size ∧ w.heap.size ≠ xw1.heap.size ∧ w.heap.size < xw1.heap.size + 1 ∧ w.heap.size < xw1.heap.size + 1 + 1 ∧ w.heap.size + 1 < xw1.heap.size ∧ xw1.heap.size ≠ w.heap.size + 1 ∧ w.heap.size + 1 ≠ xw1.heap.size ∧ w.heap.size + 1 < xw1.heap.size + 1 ∧ w.heap.size + 1 < xw1.heap.size + 1 + 1 ∧ b < xw1.heap.size ∧ xw1.heap.size ≠ b ∧ b ≠ xw1.heap.size ∧ b < xw1.heap.size + 1 ∧ b < xw1.heap.size + 1 + 1 ∧ b < xw1.heap.size ∧ xw1.heap.size ≠ b ∧ b ≠ xw1.heap.size ∧ b < xw1.heap.size + 1 ∧ b < xw1.heap.size + 1 + 1 := by refine ⟨?_, ?_, ?_, ?_, ?_, ?_, ?_, ?_, ?_, ?_, ?_, ?_, ?_, ?_, ?_, ?_, ?_, ?_, ?_, ?_⟩ <;> omega
  have hBx1 : Below w.heap.size w xw1 := (by (repeat (first | (with_reducible refine Below.drew ?_) | (with_reducible refine below_drewN ?_ _) | (with_reducible refine Below.alloc ?_ (by first | omega | (simp; done) | (simp; omega) | (simp at *; omega)) _) | (with_reducible refine Below.setCell ?_ (by first | omega | (simp; done) | (simp; omega) | (simp at *; omega)) _) | (with_reducible exact Below.refl _ _) | (with_reducible assumption) | (with_reducible refine Below.trans ?_ (Below.mono (by assumption) (by first | omega | (simp; done) | (simp; omega) | (simp at *; omega)))))))
  clear hbx1 
  go_upto_region 4 with (fail)
  refine wp_region_held_drew (S := (fun w' => w'.cell? ⟨w.heap.size, 0, none⟩ = some (.int .i64 x) ∧ w'.cell? ⟨b, off, none⟩ = some (.int .i64 p0) ∧ w'.cell? ⟨b, off + N * 3, none⟩ = some (.int .i64 p9))) (by kernel_rfl) (by simp [go_sem, World.cell?_alloc_past, *]) (fun hHeld => ?_)
  refine tkH 0 ⟨some 15, _, _, _, _, _⟩ ?_ rfl ?_ (by assumption) ?_
  rotate_left
  · (intro w hSw; (try dsimp only at hSw); go_simp; all_goals with_reducible rfl)
  try simp only [Act.put, sA, sB, sC]
  refine tkH 1 ⟨some 16, _, _, _, _, _⟩ ?_ rfl ?_ (by assumption) ?_
  rotate_left
  · (intro w hSw; (try dsimp only at hSw); go_simp; all_goals with_reducible rfl)
  try simp only [Act.put, sA, sB, sC]
  refine tkH 2 ⟨some 17, _, _, _, _, _⟩ ?_ rfl ?_ (by assumption) ?_
  rotate_left
  · (intro w hSw; (try dsimp only at hSw); go_simp; all_goals with_reducible rfl)
  try simp only [Act.put, sA, sB, sC]
  refine tkH 3 ⟨some 18, _, _, _, _, _⟩ ?_ rfl ?_ (by assumption) ?_
  rotate_left
  · (intro w hSw; (try dsimp only at hSw); go_simp; all_goals with_reducible rfl)
  try simp only [Act.put, sA, sB, sC]
  refine tkH 4 ⟨some 19, _, _, _, _, _⟩ ?_ rfl ?_ (by assumption) ?_
  rotate_left
  · (intro w hSw; (try dsimp only at hSw); go_simp; all_goals with_reducible rfl)
  try simp only [Act.put, sA, sB, sC]
  refine tkH 5 ⟨some 20, _, _, _, _, _⟩ ?_ rfl ?_ (by assumption) ?_
  rotate_left
  · (intro w hSw; (try dsimp only at hSw); go_simp; all_goals with_reducible rfl)
  try simp only [Act.put, sA, sB, sC]
  refine tkH 6 ⟨some 21, _, _, _, _, _⟩ ?_ rfl ?_ (by assumption) ?_
  rotate_left
  · (intro w hSw; (try dsimp only at hSw); go_simp; all_goals with_reducible rfl)
  try simp only [Act.put, sA, sB, sC]
  refine tkH 7 ⟨some 22, _, _, _, _, _⟩ ?_ rfl ?_ (by assumption) ?_
  rotate_left
  · (intro w hSw; (try dsimp only at hSw); go_simp; all_goals with_reducible rfl)
  try simp only [Act.put, sA, sB, sC]
  refine tkH 8 ⟨some 23, _, _, _, _, _⟩ ?_ rfl ?_ (by assumption) ?_
  rotate_left
  · (intro w hSw; (try dsimp only at hSw); go_simp; all_goals with_reducible rfl)
  try simp only [Act.put, sA, sB, sC]
  refine tkH 9 ⟨some 24, _, _, _, _, _⟩ ?_ rfl ?_ (by assumption) ?_
  rotate_left
  · (intro w hSw; (try dsimp only at hSw); go_simp; all_goals with_reducible rfl)
  try simp only [Act.put, sA, sB, sC]
  refine tkH 10 ⟨some 25, _, _, _, _, _⟩ ?_ rfl ?_ (by assumption) ?_
  rotate_left
  · (intro w hSw; (try dsimp only at hSw); go_simp; all_goals with_reducible rfl)
  try simp only [Act.put, sA, sB, sC]
  refine tkH 11 ⟨some 26, _, _, _, _, _⟩ ?_ rfl ?_ (by assumption) ?_
  rotate_left
  · (intro w hSw; (try dsimp only at hSw); go_simp; all_goals with_reducible rfl)
  try simp only [Act.put, sA, sB, sC]
  refine wpAnyH_ready (rs := [12]) (by kernel_rfl) (by simp) ?_
  refine AllReadyH.cons rfl (fun K hK => ?_) AllReadyH.nil
  go_simp
  refine (cRange_any _ _ _ _).mono ?_
  rintro e wq ⟨rfl, rfl⟩
  go_wp2_with fail
  refine hK.out _ _ (by simp [go_sem, World.cell?_alloc_past, *]) (fun hHeld => ?_)
  clear hK K
  try simp only [Act.put, sA, sB, sC]
  refine tkH 13 ⟨some 7, _, _, _, _, _⟩ ?_ rfl ?_ (by assumption) ?_
  rotate_left
  · (intro w hSw; (try dsimp only at hSw); go_simp; all_goals with_reducible rfl)
  try simp only [Act.put, sA, sB, sC]
  refine wpAnyH_done (by kernel_rfl) ?_ _
  go_wp2
  refine bodyPost_ret (v := .tuple #[.agg #[.int .i64 0, .int .i64 0], .int .i64 2]) (by simp [results, Try.results44, go_sem, *]) rfl ⟨rfl, ?_⟩
  (repeat (first | (with_reducible refine Below.drew ?_) | (with_reducible refine below_drewN ?_ _) | (with_reducible refine Below.alloc ?_ (by first | omega | (simp; done) | (simp; omega) | (simp at *; omega)) _) | (with_reducible refine Below.setCell ?_ (by first | omega | (simp; done) | (simp; omega) | (simp at *; omega)) _) | (with_reducible exact Below.refl _ _) | (with_reducible assumption) | (with_reducible refine Below.trans ?_ (Below.mono (by assumption) (by first | omega | (simp; done) | (simp; omega) | (simp at *; omega))))))
set_option maxHeartbeats 4000000 in
set_option maxRecDepth 100000 in
theorem FactorAt_hit (L : List Fc) (b off cap N : Nat) (x : Int) (w : World) (hl : L.length ≤ 1000000) (hlt : b < w.heap.size) (hL : RowsAt fcV 3 w b off L) (hN : Hid (N + 1 = L.length)) (p0 p9 : Int) (h0 : Hid ((L[0]'(by have := hN.out; omega)).p = p0)) (h9 : Hid ((L[N]'(by have := hN.out; omega)).p = p9)) (i : Nat) (hi : Hid (fix x L = i)) (hiN : i < N + 1) (pi li ui : Int) (ih0 : Hid ((L[i]'(by have := hN.out; omega)).p = pi)) (ih1 : Hid ((L[i]'(by have := hN.out; omega)).l = li)) (ih2 : Hid ((L[i]'(by have := hN.out; omega)).u = ui)) (hE : Hid (ctE L = 0)) (hr : Hid (rngE x p0 p9 = 0)) (he : pi = x) : Calls Try.prog 44 #[.slice (some ⟨b, off, none⟩) (N + 1 : Nat) cap, .int .i64 x] w fun e w' => e = .returned (.tuple #[.agg #[.int .i64 li, .int .i64 ui], .int .i64 0]) ∧ Below w.heap.size w w' := by
  have HP := Lib.hid hL
  have nb : b ≠ w.heap.size := by omega
  have nb1 : b ≠ w.heap.size + 1 := by omega
  have nb2 : w.heap.size ≠ b := by omega
  have nb3 : w.heap.size + 1 ≠ b := by omega
  have hl0 : 0 < L.length := by have := hN.out; omega
  have hlN : N < L.length := by have := hN.out; omega
  have hlN2 : N ≤ 1000000 := by have := hN.out; omega
  have wN : IntKind.i64.wrap (((N + 1 : Nat) : Int) - 1) = (N : Int) := by rw [show ((N + 1 : Nat) : Int) - 1 = (N : Int) by omega]; exact IntWalk.i64_in _ (by omega)
  have wN2 : IntKind.i64.wrap (N : Int) = (N : Int) := IntWalk.i64_in _ (by omega)
  have eN : ((N + 1 : Nat) : Int) = (N : Int) + 1 := by omega
  have eN2 : (0 : Int) ≤ (N : Int) := by omega
  have eN3 : (N : Int) < (N : Int) + 1 := by omega
  have HF := Lib.hid fun w' (hh : SlRows fcV 3 w' (some ⟨b, off, none⟩) L) => (by have := CheckFactors_any L (some ⟨b, off, none⟩) cap 0 w' hl hh hE; rw [← hN.out] at this; exact this : Calls Try.prog 48 #[.slice (some ⟨b, off, none⟩) (N + 1 : Nat) cap] w' fun e w'' => e = .returned (.int .i64 0) ∧ Below w'.heap.size w' w'')
  have ac0 := (fc_at hL hl0).1
  have zc0 := (fc_at hL hlN).1
  rw [h0.out] at ac0
  rw [h9.out] at zc0
  simp only [Nat.zero_mul, Nat.add_zero] at ac0
  obtain ⟨ic0, ic1, ic2⟩ := fc_at hL (show i < L.length by have := hN.out; omega)
  rw [ih0.out] at ic0
  rw [ih1.out] at ic1
  rw [ih2.out] at ic2
  have hiN2 : (i : Int) < ((N + 1 : Nat) : Int) := by omega
  have hiN3 : (i : Int) < (N : Int) + 1 := by omega
  have HX := Lib.hid fun w' (hw : b < w'.heap.size) (hh : RowsAt fcV 3 w' b off L) (hc : w'.cell? ⟨w.heap.size, 0, none⟩ = some (.int .i64 x)) (hcl : w.heap.size < w'.heap.size) => indexFac_any L b off cap w.heap.size x w' hl hw hh hc hcl (N + 1) hN.out i hi hiN
  have hr' := hr.out
  subst he
  clear hL
  go_enter Try.func44, Try.ntmps44
  go_wp2_with fail
  refine (HF.out _ (Or.inr ⟨b, off, rfl, by simp; omega, HP.out.below ((Below.refl w.heap.size w).alloc (Nat.le_refl _) _ |>.alloc (by simp) _) hlt⟩)).mono ?_
  rintro e xw1 ⟨rfl, hbx1⟩
  have zx1 := hbx1.size
  try simp at zx1
  obtain ⟨x1_0_0, x1_1_0, x1_1_1, x1_2_0, x1_3_0, x1_4_0, x1_4_1, x1_4_2⟩ : xw1.cell? ⟨w.heap.size, 0, none⟩ = some (.int .i64 pi) ∧ xw1.cell? ⟨w.heap.size + 1, 0, none⟩ = some (.int .i64 0) ∧ xw1.cell? ⟨w.heap.size + 1, 1, none⟩ = some (.int .i64 0) ∧ xw1.cell? ⟨b, off, none⟩ = some (.int .i64 p0) ∧ xw1.cell? ⟨b, off + N * 3, none⟩ = some (.int .i64 p9) ∧ xw1.cell? ⟨b, off + i * 3, none⟩ = some (.int .i64 pi) ∧ xw1.cell? ⟨b, off + i * 3 + 1, none⟩ = some (.int .i64 li) ∧ xw1.cell? ⟨b, off + i * 3 + 2, none⟩ = some (.int .i64 ui) := by refine ⟨?_, ?_, ?_, ?_, ?_, ?_, ?_, ?_⟩ <;> (rw [(bcell hbx1).1 _ _ (by first | (simp; done) | (simp; omega) | omega)]; simp [go_sem, World.cell?_alloc_past, *])
  have x1f1 : (∀ j, xw1.frozen? ⟨w.heap.size + 1, j, none⟩ = false) := by (intro j; rw [(bcell hbx1).2 _ _ (by first | (simp; done) | (simp; omega) | omega)]; simp [go_sem, *])
  obtain ⟨x1o0, x1n0, x1m0, x1t0_0, x1t0_1, x1o1, x1n1, x1m1, x1t1_0, x1t1_1, x1o2, x1n2, x1m2, x1t2_0, x1t2_1, x1o3, x1n3, x1m3, x1t3_0, x1t3_1, x1o4, x1n4, x1m4, x1t4_0, x1t4_1⟩ : w.heap.size < xw1.heap.size ∧ xw1.heap.size ≠ w.heap.size ∧ w.heap.size ≠ xw1.heap.size ∧ w.heap.size < xw1.heap.size + 1 ∧ w.heap.size < xw1.heap.size + 1 + 1 ∧ w.heap.size + 1 < xw1.heap.size ∧ xw1.heap.size ≠ w.heap.size + 1 ∧ w.heap.size + 1 ≠ xw1.heap.size ∧ w.heap.size + 1 < xw1.heap.size + 1 ∧ w.heap.size + 1 < xw1.heap.size + 1 + 1 ∧ b < xw1.heap.size ∧ xw1.heap.size ≠ b ∧ b ≠ xw1.heap.size ∧ b < xw1.heap.size + 1 ∧ b < xw1.heap.size + 1 + 1 ∧ b < xw1.heap.size ∧ xw1.heap.size ≠ b ∧ b ≠ xw1.heap.size ∧ b < xw1.heap.size + 1 ∧ b < xw1.heap.size + 1 + 1 ∧ b < xw1.heap.size ∧ xw1.heap.size ≠ b ∧ b ≠ xw1.heap.size ∧ b < xw1.heap.size + 1 ∧ b < xw1.heap.size + 1 + 1 := by refine ⟨?_, ?_, ?_, ?_, ?_, ?_, ?_, ?_, ?_, ?_, ?_, ?_, ?_, ?_, ?_, ?_, ?_, ?_, ?_, ?_, ?_, ?_, ?_, ?_, ?_⟩ <;> omega
  have hBx1 : Below w.heap.size w xw1 := (by (repeat (first | (with_reducible refine Below.drew ?_) | (with_reducible refine below_drewN ?_ _) | (with_reducible refine Below.alloc ?_ (by first | omega | (simp; done) | (simp; omega) | (simp at *; omega)) _) | (with_reducible refine Below.setCell ?_ (by first | omega | (simp; done) | (simp; omega) | (simp at *; omega)) _) | (with_reducible exact Below.refl _ _) | (with_reducible assumption) | (with_reducible refine Below.trans ?_ (Below.mono (by assumption) (by first | omega | (simp; done) | (simp; omega) | (simp at *; omega)))))))
  clear hbx1 
  go_upto_region 4 with (fail)
  refine wp_region_held_drew (S := (fun w' => w'.cell? ⟨w.heap.size, 0, none⟩ = some (.int .i64 pi) ∧ w'.cell? ⟨b, off, none⟩ = some (.int .i64 p0) ∧ w'.cell? ⟨b, off + N * 3, none⟩ = some (.int .i64 p9))) (by kernel_rfl) (by simp [go_sem, World.cell?_alloc_past, *]) (fun hHeld => ?_)
  refine tkH 0 ⟨some 15, _, _, _, _, _⟩ ?_ rfl ?_ (by assumption) ?_
  rotate_left
  · (intro w hSw; (try dsimp only at hSw); go_simp; all_goals with_reducible rfl)
  try simp only [Act.put, sA, sB, sC]
  refine tkH 1 ⟨some 16, _, _, _, _, _⟩ ?_ rfl ?_ (by assumption) ?_
  rotate_left
  · (intro w hSw; (try dsimp only at hSw); go_simp; all_goals with_reducible rfl)
  try simp only [Act.put, sA, sB, sC]
  refine tkH 2 ⟨some 17, _, _, _, _, _⟩ ?_ rfl ?_ (by assumption) ?_
  rotate_left
  · (intro w hSw; (try dsimp only at hSw); go_simp; all_goals with_reducible rfl)
  try simp only [Act.put, sA, sB, sC]
  refine tkH 3 ⟨some 18, _, _, _, _, _⟩ ?_ rfl ?_ (by assumption) ?_
  rotate_left
  · (intro w hSw; (try dsimp only at hSw); go_simp; all_goals with_reducible rfl)
  try simp only [Act.put, sA, sB, sC]
  refine tkH 4 ⟨some 19, _, _, _, _, _⟩ ?_ rfl ?_ (by assumption) ?_
  rotate_left
  · (intro w hSw; (try dsimp only at hSw); go_simp; all_goals with_reducible rfl)
  try simp only [Act.put, sA, sB, sC]
  refine tkH 5 ⟨some 20, _, _, _, _, _⟩ ?_ rfl ?_ (by assumption) ?_
  rotate_left
  · (intro w hSw; (try dsimp only at hSw); go_simp; all_goals with_reducible rfl)
  try simp only [Act.put, sA, sB, sC]
  refine tkH 6 ⟨some 21, _, _, _, _, _⟩ ?_ rfl ?_ (by assumption) ?_
  rotate_left
  · (intro w hSw; (try dsimp only at hSw); go_simp; all_goals with_reducible rfl)
  try simp only [Act.put, sA, sB, sC]
  refine tkH 7 ⟨some 22, _, _, _, _, _⟩ ?_ rfl ?_ (by assumption) ?_
  rotate_left
  · (intro w hSw; (try dsimp only at hSw); go_simp; all_goals with_reducible rfl)
  try simp only [Act.put, sA, sB, sC]
  refine tkH 8 ⟨some 23, _, _, _, _, _⟩ ?_ rfl ?_ (by assumption) ?_
  rotate_left
  · (intro w hSw; (try dsimp only at hSw); go_simp; all_goals with_reducible rfl)
  try simp only [Act.put, sA, sB, sC]
  refine tkH 9 ⟨some 24, _, _, _, _, _⟩ ?_ rfl ?_ (by assumption) ?_
  rotate_left
  · (intro w hSw; (try dsimp only at hSw); go_simp; all_goals with_reducible rfl)
  try simp only [Act.put, sA, sB, sC]
  refine tkH 10 ⟨some 25, _, _, _, _, _⟩ ?_ rfl ?_ (by assumption) ?_
  rotate_left
  · (intro w hSw; (try dsimp only at hSw); go_simp; all_goals with_reducible rfl)
  try simp only [Act.put, sA, sB, sC]
  refine tkH 11 ⟨some 26, _, _, _, _, _⟩ ?_ rfl ?_ (by assumption) ?_
  rotate_left
  · (intro w hSw; (try dsimp only at hSw); go_simp; all_goals with_reducible rfl)
  try simp only [Act.put, sA, sB, sC]
  refine wpAnyH_ready (rs := [12]) (by kernel_rfl) (by simp) ?_
  refine AllReadyH.cons rfl (fun K hK => ?_) AllReadyH.nil
  go_simp
  refine (cRange_any _ _ _ _).mono ?_
  rintro e wq ⟨rfl, rfl⟩
  go_wp2_with fail
  refine hK.out _ _ (by simp [go_sem, World.cell?_alloc_past, *]) (fun hHeld => ?_)
  clear hK K
  try simp only [Act.put, sA, sB, sC]
  refine tkH 13 ⟨some 7, _, _, _, _, _⟩ ?_ rfl ?_ (by assumption) ?_
  rotate_left
  · (intro w hSw; (try dsimp only at hSw); go_simp; all_goals with_reducible rfl)
  try simp only [Act.put, sA, sB, sC]
  refine wpAnyH_done (by kernel_rfl) ?_ _
  go_wp2_with fail
  refine (HX.out _ (by first | omega | (simp; omega)) (HP.out.below (by first | exact hBx1 | exact hBx1.drew) hlt) (by simp [go_sem, *]) (by first | omega | (simp; omega))).mono ?_
  rintro e xw2 ⟨rfl, hbx2⟩
  have zx2 := hbx2.size
  try simp at zx2
  obtain ⟨x2_0_0, x2_1_0, x2_1_1, x2_2_0, x2_3_0, x2_4_0, x2_4_1, x2_4_2⟩ : xw2.cell? ⟨w.heap.size, 0, none⟩ = some (.int .i64 pi) ∧ xw2.cell? ⟨w.heap.size + 1, 0, none⟩ = some (.int .i64 0) ∧ xw2.cell? ⟨w.heap.size + 1, 1, none⟩ = some (.int .i64 0) ∧ xw2.cell? ⟨b, off, none⟩ = some (.int .i64 p0) ∧ xw2.cell? ⟨b, off + N * 3, none⟩ = some (.int .i64 p9) ∧ xw2.cell? ⟨b, off + i * 3, none⟩ = some (.int .i64 pi) ∧ xw2.cell? ⟨b, off + i * 3 + 1, none⟩ = some (.int .i64 li) ∧ xw2.cell? ⟨b, off + i * 3 + 2, none⟩ = some (.int .i64 ui) := by refine ⟨?_, ?_, ?_, ?_, ?_, ?_, ?_, ?_⟩ <;> (rw [(bcell hbx2).1 _ _ (by first | (simp; done) | (simp; omega) | omega)]; simp [go_sem, World.cell?_alloc_past, *])
  have x2f1 : (∀ j, xw2.frozen? ⟨w.heap.size + 1, j, none⟩ = false) := by (intro j; rw [(bcell hbx2).2 _ _ (by first | (simp; done) | (simp; omega) | omega)]; simp [go_sem, *])
  obtain ⟨x2o0, x2n0, x2m0, x2t0_0, x2t0_1, x2o1, x2n1, x2m1, x2t1_0, x2t1_1, x2o2, x2n2, x2m2, x2t2_0, x2t2_1, x2o3, x2n3, x2m3, x2t3_0, x2t3_1, x2o4, x2n4, x2m4, x2t4_0, x2t4_1⟩ : w.heap.size < xw2.heap.size ∧ xw2.heap.size ≠ w.heap.size ∧ w.heap.size ≠ xw2.heap.size ∧ w.heap.size < xw2.heap.size + 1 ∧ w.heap.size < xw2.heap.size + 1 + 1 ∧ w.heap.size + 1 < xw2.heap.size ∧ xw2.heap.size ≠ w.heap.size + 1 ∧ w.heap.size + 1 ≠ xw2.heap.size ∧ w.heap.size + 1 < xw2.heap.size + 1 ∧ w.heap.size + 1 < xw2.heap.size + 1 + 1 ∧ b < xw2.heap.size ∧ xw2.heap.size ≠ b ∧ b ≠ xw2.heap.size ∧ b < xw2.heap.size + 1 ∧ b < xw2.heap.size + 1 + 1 ∧ b < xw2.heap.size ∧ xw2.heap.size ≠ b ∧ b ≠ xw2.heap.size ∧ b < xw2.heap.size + 1 ∧ b < xw2.heap.size + 1 + 1 ∧ b < xw2.heap.size ∧ xw2.heap.size ≠ b ∧ b ≠ xw2.heap.size ∧ b < xw2.heap.size + 1 ∧ b < xw2.heap.size + 1 + 1 := by refine ⟨?_, ?_, ?_, ?_, ?_, ?_, ?_, ?_, ?_, ?_, ?_, ?_, ?_, ?_, ?_, ?_, ?_, ?_, ?_, ?_, ?_, ?_, ?_, ?_, ?_⟩ <;> omega
  have hBx2 : Below w.heap.size w xw2 := (by (repeat (first | (with_reducible refine Below.drew ?_) | (with_reducible refine below_drewN ?_ _) | (with_reducible refine Below.alloc ?_ (by first | omega | (simp; done) | (simp; omega) | (simp at *; omega)) _) | (with_reducible refine Below.setCell ?_ (by first | omega | (simp; done) | (simp; omega) | (simp at *; omega)) _) | (with_reducible exact Below.refl _ _) | (with_reducible assumption) | (with_reducible refine Below.trans ?_ (Below.mono (by assumption) (by first | omega | (simp; done) | (simp; omega) | (simp at *; omega)))))))
  clear hbx2 x1_0_0 x1_1_0 x1_1_1 x1_2_0 x1_3_0 x1_4_0 x1_4_1 x1_4_2 x1f1 x1o0 x1n0 x1m0 x1t0_0 x1t0_1 x1o1 x1n1 x1m1 x1t1_0 x1t1_1 x1o2 x1n2 x1m2 x1t2_0 x1t2_1 x1o3 x1n3 x1m3 x1t3_0 x1t3_1 x1o4 x1n4 x1m4 x1t4_0 x1t4_1 hBx1
  go_upto_region 8 with (fail)
  refine wp_region_held_drew (S := (fun w' => w'.cell? ⟨w.heap.size, 0, none⟩ = some (.int .i64 pi) ∧ w'.cell? ⟨b, off + i * 3, none⟩ = some (.int .i64 pi))) (by kernel_rfl) (by simp [go_sem, World.cell?_alloc_past, *]) (fun hHeld => ?_)
  refine tkH 0 ⟨some 35, _, _, _, _, _⟩ ?_ rfl ?_ (by assumption) ?_
  rotate_left
  · (intro w hSw; (try dsimp only at hSw); go_simp; all_goals with_reducible rfl)
  try simp only [Act.put, sA, sB, sC]
  refine tkH 1 ⟨some 36, _, _, _, _, _⟩ ?_ rfl ?_ (by assumption) ?_
  rotate_left
  · (intro w hSw; (try dsimp only at hSw); go_simp; all_goals with_reducible rfl)
  try simp only [Act.put, sA, sB, sC]
  refine tkH 2 ⟨some 37, _, _, _, _, _⟩ ?_ rfl ?_ (by assumption) ?_
  rotate_left
  · (intro w hSw; (try dsimp only at hSw); go_simp; all_goals with_reducible rfl)
  try simp only [Act.put, sA, sB, sC]
  refine tkH 3 ⟨some 38, _, _, _, _, _⟩ ?_ rfl ?_ (by assumption) ?_
  rotate_left
  · (intro w hSw; (try dsimp only at hSw); go_simp; all_goals with_reducible rfl)
  try simp only [Act.put, sA, sB, sC]
  refine tkH 4 ⟨some 39, _, _, _, _, _⟩ ?_ rfl ?_ (by assumption) ?_
  rotate_left
  · (intro w hSw; (try dsimp only at hSw); go_simp; all_goals with_reducible rfl)
  try simp only [Act.put, sA, sB, sC]
  refine tkH 5 ⟨some 40, _, _, _, _, _⟩ ?_ rfl ?_ (by assumption) ?_
  rotate_left
  · (intro w hSw; (try dsimp only at hSw); go_simp; all_goals with_reducible rfl)
  try simp only [Act.put, sA, sB, sC]
  refine tkH 6 ⟨some 41, _, _, _, _, _⟩ ?_ rfl ?_ (by assumption) ?_
  rotate_left
  · (intro w hSw; (try dsimp only at hSw); go_simp; all_goals with_reducible rfl)
  try simp only [Act.put, sA, sB, sC]
  refine wpAnyH_done (by kernel_rfl) ?_ _
  go_wp2
  refine bodyPost_ret (v := .tuple #[.agg #[.int .i64 li, .int .i64 ui], .int .i64 0]) (by simp [results, Try.results44, go_sem, *]) rfl ⟨rfl, ?_⟩
  (repeat (first | (with_reducible refine Below.drew ?_) | (with_reducible refine below_drewN ?_ _) | (with_reducible refine Below.alloc ?_ (by first | omega | (simp; done) | (simp; omega) | (simp at *; omega)) _) | (with_reducible refine Below.setCell ?_ (by first | omega | (simp; done) | (simp; omega) | (simp at *; omega)) _) | (with_reducible exact Below.refl _ _) | (with_reducible assumption) | (with_reducible refine Below.trans ?_ (Below.mono (by assumption) (by first | omega | (simp; done) | (simp; omega) | (simp at *; omega))))))
set_option maxHeartbeats 4000000 in
set_option maxRecDepth 100000 in
theorem FactorAt_mid (L : List Fc) (b off cap N : Nat) (x : Int) (w : World) (hl : L.length ≤ 1000000) (hlt : b < w.heap.size) (hL : RowsAt fcV 3 w b off L) (hN : Hid (N + 1 = L.length)) (p0 p9 : Int) (h0 : Hid ((L[0]'(by have := hN.out; omega)).p = p0)) (h9 : Hid ((L[N]'(by have := hN.out; omega)).p = p9)) (j : Nat) (hi : Hid (fix x L = j + 1)) (hiN : j + 1 < N + 1) (pi li ui pj lj uj n m d q r : Int) (ih0 : Hid ((L[j + 1]'(by have := hN.out; omega)).p = pi)) (ih1 : Hid ((L[j + 1]'(by have := hN.out; omega)).l = li)) (ih2 : Hid ((L[j + 1]'(by have := hN.out; omega)).u = ui)) (jh0 : Hid ((L[j]'(by have := hN.out; omega)).p = pj)) (jh1 : Hid ((L[j]'(by have := hN.out; omega)).l = lj)) (jh2 : Hid ((L[j]'(by have := hN.out; omega)).u = uj)) (a0 : 0 ≤ pj) (ax : pj ≤ x) (xb : x ≤ pi) (ab : pj < pi) (b1 : pi ≤ 400000) (al0 : 0 ≤ lj) (al1 : lj ≤ 2000) (au0 : 0 ≤ uj) (au1 : uj ≤ 2000) (bl0 : 0 ≤ li) (bl1 : li ≤ 2000) (bu0 : 0 ≤ ui) (bu1 : ui ≤ 2000) (hn : Hid (lj * (pi - x) + li * (x - pj) = n)) (hm : Hid (uj * (pi - x) + ui * (x - pj) = m)) (hd : Hid (pi - pj = d)) (n0 : 0 ≤ n) (n1 : n ≤ 4000000000) (m0 : 0 ≤ m) (m1 : m ≤ 4000000000) (d0 : 1 ≤ d) (d1 : d ≤ 400000) (hq : Hid (n / d = q)) (hr2 : Hid (upI m d = r)) (hE : Hid (ctE L = 0)) (hr : Hid (rngE x p0 p9 = 0)) (he : (pi == x) = false) : Calls Try.prog 44 #[.slice (some ⟨b, off, none⟩) (N + 1 : Nat) cap, .int .i64 x] w fun e w' => e = .returned (.tuple #[.agg #[.int .i64 q, .int .i64 r], .int .i64 0]) ∧ Below w.heap.size w w' := by
  have HP := Lib.hid hL
  have nb : b ≠ w.heap.size := by omega
  have nb1 : b ≠ w.heap.size + 1 := by omega
  have nb2 : w.heap.size ≠ b := by omega
  have nb3 : w.heap.size + 1 ≠ b := by omega
  have hl0 : 0 < L.length := by have := hN.out; omega
  have hlN : N < L.length := by have := hN.out; omega
  have hlN2 : N ≤ 1000000 := by have := hN.out; omega
  have wN : IntKind.i64.wrap (((N + 1 : Nat) : Int) - 1) = (N : Int) := by rw [show ((N + 1 : Nat) : Int) - 1 = (N : Int) by omega]; exact IntWalk.i64_in _ (by omega)
  have wN2 : IntKind.i64.wrap (N : Int) = (N : Int) := IntWalk.i64_in _ (by omega)
  have eN : ((N + 1 : Nat) : Int) = (N : Int) + 1 := by omega
  have eN2 : (0 : Int) ≤ (N : Int) := by omega
  have eN3 : (N : Int) < (N : Int) + 1 := by omega
  have HF := Lib.hid fun w' (hh : SlRows fcV 3 w' (some ⟨b, off, none⟩) L) => (by have := CheckFactors_any L (some ⟨b, off, none⟩) cap 0 w' hl hh hE; rw [← hN.out] at this; exact this : Calls Try.prog 48 #[.slice (some ⟨b, off, none⟩) (N + 1 : Nat) cap] w' fun e w'' => e = .returned (.int .i64 0) ∧ Below w'.heap.size w' w'')
  have ac0 := (fc_at hL hl0).1
  have zc0 := (fc_at hL hlN).1
  rw [h0.out] at ac0
  rw [h9.out] at zc0
  simp only [Nat.zero_mul, Nat.add_zero] at ac0
  obtain ⟨ic0, ic1, ic2⟩ := fc_at hL (show j + 1 < L.length by have := hN.out; omega)
  rw [ih0.out] at ic0
  rw [ih1.out] at ic1
  rw [ih2.out] at ic2
  have hiN2 : ((j + 1 : Nat) : Int) < ((N + 1 : Nat) : Int) := by omega
  have hiN3 : ((j + 1 : Nat) : Int) < (N : Int) + 1 := by omega
  have HX := Lib.hid fun w' (hw : b < w'.heap.size) (hh : RowsAt fcV 3 w' b off L) (hc : w'.cell? ⟨w.heap.size, 0, none⟩ = some (.int .i64 x)) (hcl : w.heap.size < w'.heap.size) => indexFac_any L b off cap w.heap.size x w' hl hw hh hc hcl (N + 1) hN.out (j + 1) hi hiN
  obtain ⟨jc0, jc1, jc2⟩ := fc_at hL (show j < L.length by have := hN.out; omega)
  rw [jh0.out] at jc0
  rw [jh1.out] at jc1
  rw [jh2.out] at jc2
  have eJ : ((j + 1 : Nat) : Int) = (j : Int) + 1 := by omega
  have wJ : IntKind.i64.wrap ((j : Int) + 1 - 1) = (j : Int) := by rw [show (j : Int) + 1 - 1 = (j : Int) by omega]; exact IntWalk.i64_in _ (by omega)
  have wJ2 : IntKind.i64.wrap (j : Int) = (j : Int) := IntWalk.i64_in _ (by omega)
  have jN0 : (0 : Int) ≤ (j : Int) := by omega
  have jN5 : (0 : Int) ≤ (j : Int) + 1 := by omega
  have jN4 : (j : Int) + 1 < (N : Int) + 1 := by omega
  have jN : (j : Int) < ((N + 1 : Nat) : Int) := by omega
  have jN3 : (j : Int) < (N : Int) + 1 := by omega
  have hr' := hr.out
  clear hL
  go_enter Try.func44, Try.ntmps44
  go_wp2_with fail
  refine (HF.out _ (Or.inr ⟨b, off, rfl, by simp; omega, HP.out.below ((Below.refl w.heap.size w).alloc (Nat.le_refl _) _ |>.alloc (by simp) _) hlt⟩)).mono ?_
  rintro e xw1 ⟨rfl, hbx1⟩
  have zx1 := hbx1.size
  try simp at zx1
  obtain ⟨x1_0_0, x1_1_0, x1_1_1, x1_2_0, x1_3_0, x1_4_0, x1_4_1, x1_4_2, x1_5_0, x1_5_1, x1_5_2⟩ : xw1.cell? ⟨w.heap.size, 0, none⟩ = some (.int .i64 x) ∧ xw1.cell? ⟨w.heap.size + 1, 0, none⟩ = some (.int .i64 0) ∧ xw1.cell? ⟨w.heap.size + 1, 1, none⟩ = some (.int .i64 0) ∧ xw1.cell? ⟨b, off, none⟩ = some (.int .i64 p0) ∧ xw1.cell? ⟨b, off + N * 3, none⟩ = some (.int .i64 p9) ∧ xw1.cell? ⟨b, off + (j + 1) * 3, none⟩ = some (.int .i64 pi) ∧ xw1.cell? ⟨b, off + (j + 1) * 3 + 1, none⟩ = some (.int .i64 li) ∧ xw1.cell? ⟨b, off + (j + 1) * 3 + 2, none⟩ = some (.int .i64 ui) ∧ xw1.cell? ⟨b, off + j * 3, none⟩ = some (.int .i64 pj) ∧ xw1.cell? ⟨b, off + j * 3 + 1, none⟩ = some (.int .i64 lj) ∧ xw1.cell? ⟨b, off + j * 3 + 2, none⟩ = some (.int .i64 uj) := by refine ⟨?_, ?_, ?_, ?_, ?_, ?_, ?_, ?_, ?_, ?_, ?_⟩ <;> (rw [(bcell hbx1).1 _ _ (by first | (simp; done) | (simp; omega) | omega)]; simp [go_sem, World.cell?_alloc_past, *])
  have x1f1 : (∀ j, xw1.frozen? ⟨w.heap.size + 1, j, none⟩ = false) := by (intro j; rw [(bcell hbx1).2 _ _ (by first | (simp; done) | (simp; omega) | omega)]; simp [go_sem, *])
  obtain ⟨x1o0, x1n0, x1m0, x1t0_0, x1t0_1, x1o1, x1n1, x1m1, x1t1_0, x1t1_1, x1o2, x1n2, x1m2, x1t2_0, x1t2_1, x1o3, x1n3, x1m3, x1t3_0, x1t3_1, x1o4, x1n4, x1m4, x1t4_0, x1t4_1, x1o5, x1n5, x1m5, x1t5_0, x1t5_1⟩ : w.heap.size < xw1.heap.size ∧ xw1.heap.size ≠ w.heap.size ∧ w.heap.size ≠ xw1.heap.size ∧ w.heap.size < xw1.heap.size + 1 ∧ w.heap.size < xw1.heap.size + 1 + 1 ∧ w.heap.size + 1 < xw1.heap.size ∧ xw1.heap.size ≠ w.heap.size + 1 ∧ w.heap.size + 1 ≠ xw1.heap.size ∧ w.heap.size + 1 < xw1.heap.size + 1 ∧ w.heap.size + 1 < xw1.heap.size + 1 + 1 ∧ b < xw1.heap.size ∧ xw1.heap.size ≠ b ∧ b ≠ xw1.heap.size ∧ b < xw1.heap.size + 1 ∧ b < xw1.heap.size + 1 + 1 ∧ b < xw1.heap.size ∧ xw1.heap.size ≠ b ∧ b ≠ xw1.heap.size ∧ b < xw1.heap.size + 1 ∧ b < xw1.heap.size + 1 + 1 ∧ b < xw1.heap.size ∧ xw1.heap.size ≠ b ∧ b ≠ xw1.heap.size ∧ b < xw1.heap.size + 1 ∧ b < xw1.heap.size + 1 + 1 ∧ b < xw1.heap.size ∧ xw1.heap.size ≠ b ∧ b ≠ xw1.heap.size ∧ b < xw1.heap.size + 1 ∧ b < xw1.heap.size + 1 + 1 := by refine ⟨?_, ?_, ?_, ?_, ?_, ?_, ?_, ?_, ?_, ?_, ?_, ?_, ?_, ?_, ?_, ?_, ?_, ?_, ?_, ?_, ?_, ?_, ?_, ?_, ?_, ?_, ?_, ?_, ?_, ?_⟩ <;> omega
  have hBx1 : Below w.heap.size w xw1 := (by (repeat (first | (with_reducible refine Below.drew ?_) | (with_reducible refine below_drewN ?_ _) | (with_reducible refine Below.alloc ?_ (by first | omega | (simp; done) | (simp; omega) | (simp at *; omega)) _) | (with_reducible refine Below.setCell ?_ (by first | omega | (simp; done) | (simp; omega) | (simp at *; omega)) _) | (with_reducible exact Below.refl _ _) | (with_reducible assumption) | (with_reducible refine Below.trans ?_ (Below.mono (by assumption) (by first | omega | (simp; done) | (simp; omega) | (simp at *; omega)))))))
  clear hbx1 
  go_upto_region 4 with (fail)
  refine wp_region_held_drew (S := (fun w' => w'.cell? ⟨w.heap.size, 0, none⟩ = some (.int .i64 x) ∧ w'.cell? ⟨b, off, none⟩ = some (.int .i64 p0) ∧ w'.cell? ⟨b, off + N * 3, none⟩ = some (.int .i64 p9))) (by kernel_rfl) (by simp [go_sem, World.cell?_alloc_past, *]) (fun hHeld => ?_)
  refine tkH 0 ⟨some 15, _, _, _, _, _⟩ ?_ rfl ?_ (by assumption) ?_
  rotate_left
  · (intro w hSw; (try dsimp only at hSw); go_simp; all_goals with_reducible rfl)
  try simp only [Act.put, sA, sB, sC]
  refine tkH 1 ⟨some 16, _, _, _, _, _⟩ ?_ rfl ?_ (by assumption) ?_
  rotate_left
  · (intro w hSw; (try dsimp only at hSw); go_simp; all_goals with_reducible rfl)
  try simp only [Act.put, sA, sB, sC]
  refine tkH 2 ⟨some 17, _, _, _, _, _⟩ ?_ rfl ?_ (by assumption) ?_
  rotate_left
  · (intro w hSw; (try dsimp only at hSw); go_simp; all_goals with_reducible rfl)
  try simp only [Act.put, sA, sB, sC]
  refine tkH 3 ⟨some 18, _, _, _, _, _⟩ ?_ rfl ?_ (by assumption) ?_
  rotate_left
  · (intro w hSw; (try dsimp only at hSw); go_simp; all_goals with_reducible rfl)
  try simp only [Act.put, sA, sB, sC]
  refine tkH 4 ⟨some 19, _, _, _, _, _⟩ ?_ rfl ?_ (by assumption) ?_
  rotate_left
  · (intro w hSw; (try dsimp only at hSw); go_simp; all_goals with_reducible rfl)
  try simp only [Act.put, sA, sB, sC]
  refine tkH 5 ⟨some 20, _, _, _, _, _⟩ ?_ rfl ?_ (by assumption) ?_
  rotate_left
  · (intro w hSw; (try dsimp only at hSw); go_simp; all_goals with_reducible rfl)
  try simp only [Act.put, sA, sB, sC]
  refine tkH 6 ⟨some 21, _, _, _, _, _⟩ ?_ rfl ?_ (by assumption) ?_
  rotate_left
  · (intro w hSw; (try dsimp only at hSw); go_simp; all_goals with_reducible rfl)
  try simp only [Act.put, sA, sB, sC]
  refine tkH 7 ⟨some 22, _, _, _, _, _⟩ ?_ rfl ?_ (by assumption) ?_
  rotate_left
  · (intro w hSw; (try dsimp only at hSw); go_simp; all_goals with_reducible rfl)
  try simp only [Act.put, sA, sB, sC]
  refine tkH 8 ⟨some 23, _, _, _, _, _⟩ ?_ rfl ?_ (by assumption) ?_
  rotate_left
  · (intro w hSw; (try dsimp only at hSw); go_simp; all_goals with_reducible rfl)
  try simp only [Act.put, sA, sB, sC]
  refine tkH 9 ⟨some 24, _, _, _, _, _⟩ ?_ rfl ?_ (by assumption) ?_
  rotate_left
  · (intro w hSw; (try dsimp only at hSw); go_simp; all_goals with_reducible rfl)
  try simp only [Act.put, sA, sB, sC]
  refine tkH 10 ⟨some 25, _, _, _, _, _⟩ ?_ rfl ?_ (by assumption) ?_
  rotate_left
  · (intro w hSw; (try dsimp only at hSw); go_simp; all_goals with_reducible rfl)
  try simp only [Act.put, sA, sB, sC]
  refine tkH 11 ⟨some 26, _, _, _, _, _⟩ ?_ rfl ?_ (by assumption) ?_
  rotate_left
  · (intro w hSw; (try dsimp only at hSw); go_simp; all_goals with_reducible rfl)
  try simp only [Act.put, sA, sB, sC]
  refine wpAnyH_ready (rs := [12]) (by kernel_rfl) (by simp) ?_
  refine AllReadyH.cons rfl (fun K hK => ?_) AllReadyH.nil
  go_simp
  refine (cRange_any _ _ _ _).mono ?_
  rintro e wq ⟨rfl, rfl⟩
  go_wp2_with fail
  refine hK.out _ _ (by simp [go_sem, World.cell?_alloc_past, *]) (fun hHeld => ?_)
  clear hK K
  try simp only [Act.put, sA, sB, sC]
  refine tkH 13 ⟨some 7, _, _, _, _, _⟩ ?_ rfl ?_ (by assumption) ?_
  rotate_left
  · (intro w hSw; (try dsimp only at hSw); go_simp; all_goals with_reducible rfl)
  try simp only [Act.put, sA, sB, sC]
  refine wpAnyH_done (by kernel_rfl) ?_ _
  go_wp2_with fail
  refine (HX.out _ (by first | omega | (simp; omega)) (HP.out.below (by first | exact hBx1 | exact hBx1.drew) hlt) (by simp [go_sem, *]) (by first | omega | (simp; omega))).mono ?_
  rintro e xw2 ⟨rfl, hbx2⟩
  have zx2 := hbx2.size
  try simp at zx2
  obtain ⟨x2_0_0, x2_1_0, x2_1_1, x2_2_0, x2_3_0, x2_4_0, x2_4_1, x2_4_2, x2_5_0, x2_5_1, x2_5_2⟩ : xw2.cell? ⟨w.heap.size, 0, none⟩ = some (.int .i64 x) ∧ xw2.cell? ⟨w.heap.size + 1, 0, none⟩ = some (.int .i64 0) ∧ xw2.cell? ⟨w.heap.size + 1, 1, none⟩ = some (.int .i64 0) ∧ xw2.cell? ⟨b, off, none⟩ = some (.int .i64 p0) ∧ xw2.cell? ⟨b, off + N * 3, none⟩ = some (.int .i64 p9) ∧ xw2.cell? ⟨b, off + (j + 1) * 3, none⟩ = some (.int .i64 pi) ∧ xw2.cell? ⟨b, off + (j + 1) * 3 + 1, none⟩ = some (.int .i64 li) ∧ xw2.cell? ⟨b, off + (j + 1) * 3 + 2, none⟩ = some (.int .i64 ui) ∧ xw2.cell? ⟨b, off + j * 3, none⟩ = some (.int .i64 pj) ∧ xw2.cell? ⟨b, off + j * 3 + 1, none⟩ = some (.int .i64 lj) ∧ xw2.cell? ⟨b, off + j * 3 + 2, none⟩ = some (.int .i64 uj) := by refine ⟨?_, ?_, ?_, ?_, ?_, ?_, ?_, ?_, ?_, ?_, ?_⟩ <;> (rw [(bcell hbx2).1 _ _ (by first | (simp; done) | (simp; omega) | omega)]; simp [go_sem, World.cell?_alloc_past, *])
  have x2f1 : (∀ j, xw2.frozen? ⟨w.heap.size + 1, j, none⟩ = false) := by (intro j; rw [(bcell hbx2).2 _ _ (by first | (simp; done) | (simp; omega) | omega)]; simp [go_sem, *])
  obtain ⟨x2o0, x2n0, x2m0, x2t0_0, x2t0_1, x2o1, x2n1, x2m1, x2t1_0, x2t1_1, x2o2, x2n2, x2m2, x2t2_0, x2t2_1, x2o3, x2n3, x2m3, x2t3_0, x2t3_1, x2o4, x2n4, x2m4, x2t4_0, x2t4_1, x2o5, x2n5, x2m5, x2t5_0, x2t5_1⟩ : w.heap.size < xw2.heap.size ∧ xw2.heap.size ≠ w.heap.size ∧ w.heap.size ≠ xw2.heap.size ∧ w.heap.size < xw2.heap.size + 1 ∧ w.heap.size < xw2.heap.size + 1 + 1 ∧ w.heap.size + 1 < xw2.heap.size ∧ xw2.heap.size ≠ w.heap.size + 1 ∧ w.heap.size + 1 ≠ xw2.heap.size ∧ w.heap.size + 1 < xw2.heap.size + 1 ∧ w.heap.size + 1 < xw2.heap.size + 1 + 1 ∧ b < xw2.heap.size ∧ xw2.heap.size ≠ b ∧ b ≠ xw2.heap.size ∧ b < xw2.heap.size + 1 ∧ b < xw2.heap.size + 1 + 1 ∧ b < xw2.heap.size ∧ xw2.heap.size ≠ b ∧ b ≠ xw2.heap.size ∧ b < xw2.heap.size + 1 ∧ b < xw2.heap.size + 1 + 1 ∧ b < xw2.heap.size ∧ xw2.heap.size ≠ b ∧ b ≠ xw2.heap.size ∧ b < xw2.heap.size + 1 ∧ b < xw2.heap.size + 1 + 1 ∧ b < xw2.heap.size ∧ xw2.heap.size ≠ b ∧ b ≠ xw2.heap.size ∧ b < xw2.heap.size + 1 ∧ b < xw2.heap.size + 1 + 1 := by refine ⟨?_, ?_, ?_, ?_, ?_, ?_, ?_, ?_, ?_, ?_, ?_, ?_, ?_, ?_, ?_, ?_, ?_, ?_, ?_, ?_, ?_, ?_, ?_, ?_, ?_, ?_, ?_, ?_, ?_, ?_⟩ <;> omega
  have hBx2 : Below w.heap.size w xw2 := (by (repeat (first | (with_reducible refine Below.drew ?_) | (with_reducible refine below_drewN ?_ _) | (with_reducible refine Below.alloc ?_ (by first | omega | (simp; done) | (simp; omega) | (simp at *; omega)) _) | (with_reducible refine Below.setCell ?_ (by first | omega | (simp; done) | (simp; omega) | (simp at *; omega)) _) | (with_reducible exact Below.refl _ _) | (with_reducible assumption) | (with_reducible refine Below.trans ?_ (Below.mono (by assumption) (by first | omega | (simp; done) | (simp; omega) | (simp at *; omega)))))))
  clear hbx2 x1_0_0 x1_1_0 x1_1_1 x1_2_0 x1_3_0 x1_4_0 x1_4_1 x1_4_2 x1_5_0 x1_5_1 x1_5_2 x1f1 x1o0 x1n0 x1m0 x1t0_0 x1t0_1 x1o1 x1n1 x1m1 x1t1_0 x1t1_1 x1o2 x1n2 x1m2 x1t2_0 x1t2_1 x1o3 x1n3 x1m3 x1t3_0 x1t3_1 x1o4 x1n4 x1m4 x1t4_0 x1t4_1 x1o5 x1n5 x1m5 x1t5_0 x1t5_1 hBx1
  go_upto_region 8 with (fail)
  refine wp_region_held_drew (S := (fun w' => w'.cell? ⟨w.heap.size, 0, none⟩ = some (.int .i64 x) ∧ w'.cell? ⟨b, off + (j + 1) * 3, none⟩ = some (.int .i64 pi))) (by kernel_rfl) (by simp [go_sem, World.cell?_alloc_past, *]) (fun hHeld => ?_)
  refine tkH 0 ⟨some 35, _, _, _, _, _⟩ ?_ rfl ?_ (by assumption) ?_
  rotate_left
  · (intro w hSw; (try dsimp only at hSw); go_simp; all_goals with_reducible rfl)
  try simp only [Act.put, sA, sB, sC]
  refine tkH 1 ⟨some 36, _, _, _, _, _⟩ ?_ rfl ?_ (by assumption) ?_
  rotate_left
  · (intro w hSw; (try dsimp only at hSw); go_simp; all_goals with_reducible rfl)
  try simp only [Act.put, sA, sB, sC]
  refine tkH 2 ⟨some 37, _, _, _, _, _⟩ ?_ rfl ?_ (by assumption) ?_
  rotate_left
  · (intro w hSw; (try dsimp only at hSw); go_simp; all_goals with_reducible rfl)
  try simp only [Act.put, sA, sB, sC]
  refine tkH 3 ⟨some 38, _, _, _, _, _⟩ ?_ rfl ?_ (by assumption) ?_
  rotate_left
  · (intro w hSw; (try dsimp only at hSw); go_simp; all_goals with_reducible rfl)
  try simp only [Act.put, sA, sB, sC]
  refine tkH 4 ⟨some 39, _, _, _, _, _⟩ ?_ rfl ?_ (by assumption) ?_
  rotate_left
  · (intro w hSw; (try dsimp only at hSw); go_simp; all_goals with_reducible rfl)
  try simp only [Act.put, sA, sB, sC]
  refine tkH 5 ⟨some 40, _, _, _, _, _⟩ ?_ rfl ?_ (by assumption) ?_
  rotate_left
  · (intro w hSw; (try dsimp only at hSw); go_simp; all_goals with_reducible rfl)
  try simp only [Act.put, sA, sB, sC]
  refine tkH 6 ⟨some 41, _, _, _, _, _⟩ ?_ rfl ?_ (by assumption) ?_
  rotate_left
  · (intro w hSw; (try dsimp only at hSw); go_simp; all_goals with_reducible rfl)
  try simp only [Act.put, sA, sB, sC]
  refine wpAnyH_done (by kernel_rfl) ?_ _
  go_upto_region 10 with (fail)
  refine wp_region_held_drew (S := (fun w' => w'.cell? ⟨w.heap.size, 0, none⟩ = some (.int .i64 x) ∧ w'.cell? ⟨b, off + (j + 1) * 3, none⟩ = some (.int .i64 pi) ∧ w'.cell? ⟨b, off + (j + 1) * 3 + 1, none⟩ = some (.int .i64 li) ∧ w'.cell? ⟨b, off + (j + 1) * 3 + 2, none⟩ = some (.int .i64 ui) ∧ w'.cell? ⟨b, off + j * 3, none⟩ = some (.int .i64 pj) ∧ w'.cell? ⟨b, off + j * 3 + 1, none⟩ = some (.int .i64 lj) ∧ w'.cell? ⟨b, off + j * 3 + 2, none⟩ = some (.int .i64 uj))) (by kernel_rfl) (by simp [go_sem, World.cell?_alloc_past, *]) (fun hHeld => ?_)
  refine tkH 0 ⟨some 47, _, _, _, _, _⟩ ?_ rfl ?_ (by assumption) ?_
  rotate_left
  · (intro w hSw; (try dsimp only at hSw); go_simp; all_goals with_reducible rfl)
  try simp only [Act.put, sA, sB, sC]
  refine tkH 1 ⟨some 48, _, _, _, _, _⟩ ?_ rfl ?_ (by assumption) ?_
  rotate_left
  · (intro w hSw; (try dsimp only at hSw); go_simp; all_goals with_reducible rfl)
  try simp only [Act.put, sA, sB, sC]
  refine tkH 2 ⟨some 49, _, _, _, _, _⟩ ?_ rfl ?_ (by assumption) ?_
  rotate_left
  · (intro w hSw; (try dsimp only at hSw); go_simp; all_goals with_reducible rfl)
  try simp only [Act.put, sA, sB, sC]
  refine tkH 3 ⟨some 50, _, _, _, _, _⟩ ?_ rfl ?_ (by assumption) ?_
  rotate_left
  · (intro w hSw; (try dsimp only at hSw); go_simp; all_goals with_reducible rfl)
  try simp only [Act.put, sA, sB, sC]
  refine tkH 4 ⟨some 51, _, _, _, _, _⟩ ?_ rfl ?_ (by assumption) ?_
  rotate_left
  · (intro w hSw; (try dsimp only at hSw); go_simp; all_goals with_reducible rfl)
  try simp only [Act.put, sA, sB, sC]
  refine tkH 5 ⟨some 52, _, _, _, _, _⟩ ?_ rfl ?_ (by assumption) ?_
  rotate_left
  · (intro w hSw; (try dsimp only at hSw); go_simp; all_goals with_reducible rfl)
  try simp only [Act.put, sA, sB, sC]
  refine tkH 6 ⟨some 53, _, _, _, _, _⟩ ?_ rfl ?_ (by assumption) ?_
  rotate_left
  · (intro w hSw; (try dsimp only at hSw); go_simp; all_goals with_reducible rfl)
  try simp only [Act.put, sA, sB, sC]
  refine tkH 7 ⟨some 54, _, _, _, _, _⟩ ?_ rfl ?_ (by assumption) ?_
  rotate_left
  · (intro w hSw; (try dsimp only at hSw); go_simp; all_goals with_reducible rfl)
  try simp only [Act.put, sA, sB, sC]
  refine tkH 8 ⟨some 55, _, _, _, _, _⟩ ?_ rfl ?_ (by assumption) ?_
  rotate_left
  · (intro w hSw; (try dsimp only at hSw); go_simp; all_goals with_reducible rfl)
  try simp only [Act.put, sA, sB, sC]
  refine tkH 9 ⟨some 56, _, _, _, _, _⟩ ?_ rfl ?_ (by assumption) ?_
  rotate_left
  · (intro w hSw; (try dsimp only at hSw); go_simp; all_goals with_reducible rfl)
  try simp only [Act.put, sA, sB, sC]
  refine wpAnyH_ready (rs := [10]) (by kernel_rfl) (by simp) ?_
  refine AllReadyH.cons rfl (fun K hK => ?_) AllReadyH.nil
  go_simp
  refine (between_any pj lj uj pi li ui x n m d q r _ a0 ax xb ab b1 al0 al1 au0 au1 bl0 bl1 bu0 bu1 hn hm hd n0 n1 m0 m1 d0 d1 hq hr2).mono ?_
  rintro e xw3 ⟨rfl, hbx3⟩
  have zx3 := hbx3.size
  try simp at zx3
  obtain ⟨x3_0_0, x3_1_0, x3_1_1, x3_2_0, x3_3_0, x3_4_0, x3_4_1, x3_4_2, x3_5_0, x3_5_1, x3_5_2⟩ : xw3.cell? ⟨w.heap.size, 0, none⟩ = some (.int .i64 x) ∧ xw3.cell? ⟨w.heap.size + 1, 0, none⟩ = some (.int .i64 0) ∧ xw3.cell? ⟨w.heap.size + 1, 1, none⟩ = some (.int .i64 0) ∧ xw3.cell? ⟨b, off, none⟩ = some (.int .i64 p0) ∧ xw3.cell? ⟨b, off + N * 3, none⟩ = some (.int .i64 p9) ∧ xw3.cell? ⟨b, off + (j + 1) * 3, none⟩ = some (.int .i64 pi) ∧ xw3.cell? ⟨b, off + (j + 1) * 3 + 1, none⟩ = some (.int .i64 li) ∧ xw3.cell? ⟨b, off + (j + 1) * 3 + 2, none⟩ = some (.int .i64 ui) ∧ xw3.cell? ⟨b, off + j * 3, none⟩ = some (.int .i64 pj) ∧ xw3.cell? ⟨b, off + j * 3 + 1, none⟩ = some (.int .i64 lj) ∧ xw3.cell? ⟨b, off + j * 3 + 2, none⟩ = some (.int .i64 uj) := by refine ⟨?_, ?_, ?_, ?_, ?_, ?_, ?_, ?_, ?_, ?_, ?_⟩ <;> (rw [(bcell hbx3).1 _ _ (by first | (simp; done) | (simp; omega) | omega)]; simp [go_sem, World.cell?_alloc_past, *])
  have x3f1 : (∀ j, xw3.frozen? ⟨w.heap.size + 1, j, none⟩ = false) := by (intro j; rw [(bcell hbx3).2 _ _ (by first | (simp; done) | (simp; omega) | omega)]; simp [go_sem, *])
  obtain ⟨x3o0, x3n0, x3m0, x3t0_0, x3t0_1, x3o1, x3n1, x3m1, x3t1_0, x3t1_1, x3o2, x3n2, x3m2, x3t2_0, x3t2_1, x3o3, x3n3, x3m3, x3t3_0, x3t3_1, x3o4, x3n4, x3m4, x3t4_0, x3t4_1, x3o5, x3n5, x3m5, x3t5_0, x3t5_1⟩ : w.heap.size < xw3.heap.size ∧ xw3.heap.size ≠ w.heap.size ∧ w.heap.size ≠ xw3.heap.size ∧ w.heap.size < xw3.heap.size + 1 ∧ w.heap.size < xw3.heap.size + 1 + 1 ∧ w.heap.size + 1 < xw3.heap.size ∧ xw3.heap.size ≠ w.heap.size + 1 ∧ w.heap.size + 1 ≠ xw3.heap.size ∧ w.heap.size + 1 < xw3.heap.size + 1 ∧ w.heap.size + 1 < xw3.heap.size + 1 + 1 ∧ b < xw3.heap.size ∧ xw3.heap.size ≠ b ∧ b ≠ xw3.heap.size ∧ b < xw3.heap.size + 1 ∧ b < xw3.heap.size + 1 + 1 ∧ b < xw3.heap.size ∧ xw3.heap.size ≠ b ∧ b ≠ xw3.heap.size ∧ b < xw3.heap.size + 1 ∧ b < xw3.heap.size + 1 + 1 ∧ b < xw3.heap.size ∧ xw3.heap.size ≠ b ∧ b ≠ xw3.heap.size ∧ b < xw3.heap.size + 1 ∧ b < xw3.heap.size + 1 + 1 ∧ b < xw3.heap.size ∧ xw3.heap.size ≠ b ∧ b ≠ xw3.heap.size ∧ b < xw3.heap.size + 1 ∧ b < xw3.heap.size + 1 + 1 := by refine ⟨?_, ?_, ?_, ?_, ?_, ?_, ?_, ?_, ?_, ?_, ?_, ?_, ?_, ?_, ?_, ?_, ?_, ?_, ?_, ?_, ?_, ?_, ?_, ?_, ?_, ?_, ?_, ?_, ?_, ?_⟩ <;> omega
  have hBx3 : Below w.heap.size w xw3 := (by (repeat (first | (with_reducible refine Below.drew ?_) | (with_reducible refine below_drewN ?_ _) | (with_reducible refine Below.alloc ?_ (by first | omega | (simp; done) | (simp; omega) | (simp at *; omega)) _) | (with_reducible refine Below.setCell ?_ (by first | omega | (simp; done) | (simp; omega) | (simp at *; omega)) _) | (with_reducible exact Below.refl _ _) | (with_reducible assumption) | (with_reducible refine Below.trans ?_ (Below.mono (by assumption) (by first | omega | (simp; done) | (simp; omega) | (simp at *; omega)))))))
  clear hbx3 x2_0_0 x2_1_0 x2_1_1 x2_2_0 x2_3_0 x2_4_0 x2_4_1 x2_4_2 x2_5_0 x2_5_1 x2_5_2 x2f1 x2o0 x2n0 x2m0 x2t0_0 x2t0_1 x2o1 x2n1 x2m1 x2t1_0 x2t1_1 x2o2 x2n2 x2m2 x2t2_0 x2t2_1 x2o3 x2n3 x2m3 x2t3_0 x2t3_1 x2o4 x2n4 x2m4 x2t4_0 x2t4_1 x2o5 x2n5 x2m5 x2t5_0 x2t5_1 hBx2
  go_wp2_with fail
  refine hK.out _ _ (by simp [go_sem, World.cell?_alloc_past, *]) (fun hHeld => ?_)
  clear hK K
  try simp only [Act.put, sA, sB, sC]
  refine wpAnyH_ready (rs := [11]) (by kernel_rfl) (by simp) ?_
  refine AllReadyH.cons rfl (fun K hK => ?_) AllReadyH.nil
  go_simp
  go_wp2_with fail
  refine hK.out _ _ (by simp [go_sem, World.cell?_alloc_past, *]) (fun hHeld => ?_)
  clear hK K
  try simp only [Act.put, sA, sB, sC]
  refine tkH 12 ⟨some 5, _, _, _, _, _⟩ ?_ rfl ?_ (by assumption) ?_
  rotate_left
  · (intro w hSw; (try dsimp only at hSw); go_simp; all_goals with_reducible rfl)
  try simp only [Act.put, sA, sB, sC]
  refine wpAnyH_done (by kernel_rfl) ?_ _
  go_wp2
  refine bodyPost_ret (v := .tuple #[.agg #[.int .i64 q, .int .i64 r], .int .i64 0]) (by simp [results, Try.results44, go_sem, *]) rfl ⟨rfl, ?_⟩
  (repeat (first | (with_reducible refine Below.drew ?_) | (with_reducible refine below_drewN ?_ _) | (with_reducible refine Below.alloc ?_ (by first | omega | (simp; done) | (simp; omega) | (simp at *; omega)) _) | (with_reducible refine Below.setCell ?_ (by first | omega | (simp; done) | (simp; omega) | (simp at *; omega)) _) | (with_reducible exact Below.refl _ _) | (with_reducible assumption) | (with_reducible refine Below.trans ?_ (Below.mono (by assumption) (by first | omega | (simp; done) | (simp; omega) | (simp at *; omega))))))
end Go.Proofs.Ytjkhjjmmkdfjmaa
