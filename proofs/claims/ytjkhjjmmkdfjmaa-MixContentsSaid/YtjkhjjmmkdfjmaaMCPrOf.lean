import Derived.Test.YtjkhjjmmkdfjmaaMCFLeaf
import Derived.Outline
import Derived.Test.YtjkhjjmmkdfjmaaMCFRatio
import Derived.Test.YtjkhjjmmkdfjmaaMCFShare2
import Derived.Test.YtjkhjjmmkdfjmaaMCFNamed
import Derived.Test.YtjkhjjmmkdfjmaaMCLastReg
import Derived.Test.YtjkhjjmmkdfjmaaMCFRefM
import Derived.Deep.CutBlock
import Derived.Test.YtjkhjjmmkdfjmaaMCVBeh
namespace Go.Proofs.Ytjkhjjmmkdfjmaa
open Go.ChangeShapes Go.WideShapes Go.ChangeAt Go.RowKit
set_option linter.unusedVariables false

theorem ceil_z {n d : Int} (h0 : 0 ≤ n) (h2 : 0 < d) (hr : n % d = 0) : (n + d - 1) / d = n / d := by
  have h := Int.emod_add_mul_ediv n d
  rw [hr, Int.zero_add] at h
  rw [← h, show d * (n / d) + d - 1 = (d - 1) + d * (n / d) by omega, Int.add_mul_ediv_left _ _ (by omega), Int.ediv_eq_zero_of_lt (by omega) (by omega), Int.mul_ediv_cancel_left _ (by omega)]
  omega
theorem ceil_s {n d : Int} (h0 : 0 ≤ n) (h2 : 0 < d) (hr : 0 < n % d) : (n + d - 1) / d = n / d + 1 := by
  have h := Int.emod_add_mul_ediv n d
  have hl := Int.emod_lt_of_pos n h2
  have e : n + d - 1 = (n % d - 1) + d * (n / d + 1) := by rw [Int.mul_add]; omega
  rw [e, Int.add_mul_ediv_left _ _ (by omega), Int.ediv_eq_zero_of_lt (by omega) (by omega)]
  omega
theorem baseFloor_nn (n d : Int) (w : World) (h0 : 0 ≤ n) (h1 : n ≤ 1000000000000000000) (h2 : 0 < d) (h3 : d ≤ 1000000000000000000) :
    Calls Try.prog 88 #[.int .i64 n, .int .i64 d] w fun e w' => e = .returned (.int .i64 (n / d)) ∧ w = w' := by
  have hq := quo_in n d h0 (by omega) h2
  have hd : ¬ d = 0 := by omega
  have k1 : 1 ≤ d := by omega
  have hr0 : 0 ≤ n % d := Int.emod_nonneg _ (by omega)
  have hrl : n % d < d := Int.emod_lt_of_pos n h2
  have hm : n.tmod d = n % d := Int.tmod_eq_emod_of_nonneg h0
  go_enter Try.func88, Try.ntmps88
  go_wp2
  go_ret
  exact ⟨rfl, rfl⟩
theorem baseFloor_neg (n d : Int) (w : World) (h0 : 0 ≤ n) (h1 : n ≤ 1000000000000000000) (h2 : 0 < d) (h3 : d ≤ 1000000000000000000) :
    Calls Try.prog 88 #[.int .i64 (-n), .int .i64 d] w fun e w' => e = .returned (.int .i64 (-((n + d - 1) / d))) ∧ w = w' := by
  have a1 : 0 ≤ n / d := Int.ediv_nonneg h0 (by omega)
  have a2 : n / d ≤ n := Int.ediv_le_self _ h0
  have hd : ¬ d = 0 := by omega
  have k1 : 1 ≤ d := by omega
  have hr0 : 0 ≤ n % d := Int.emod_nonneg _ (by omega)
  have hrl : n % d < d := Int.emod_lt_of_pos n h2
  have hm : (-n).tmod d = -(n % d) := by rw [Int.neg_tmod, Int.tmod_eq_emod_of_nonneg h0]
  have hq : (-n).tdiv d = -(n / d) := by rw [Int.neg_tdiv, Int.tdiv_eq_ediv_of_nonneg h0]
  obtain ⟨x, hx⟩ : ∃ x, Hid (-n = x) := ⟨-n, rfl⟩
  rw [hx.out] at hm hq ⊢
  obtain ⟨q, HQ⟩ : ∃ q, Hid (n / d = q) := ⟨n / d, rfl⟩
  obtain ⟨r, HR⟩ : ∃ r, Hid (n % d = r) := ⟨n % d, rfl⟩
  rw [HQ.out] at a1 a2 hq
  rw [HR.out] at hr0 hrl hm
  have w1 : IntKind.i64.wrap (x.tdiv d) = -q := by rw [hq]; exact IntWalk.i64_in _ (by omega)
  have w2 : IntKind.i64.wrap (-q - 1) = -q - 1 := IntWalk.i64_in _ (by omega)
  by_cases hz : r = 0
  · have e : Hid (-((n + d - 1) / d) = -q) := by show _ = _; rw [ceil_z h0 h2 (by rw [HR.out]; exact hz), HQ.out]
    rw [e.out]
    have hm0 : x.tmod d = 0 := by omega
    clear hm hz hr0 hrl
    go_enter Try.func88, Try.ntmps88
    go_wp2
    go_ret
    exact ⟨rfl, rfl⟩
  · have e : Hid (-((n + d - 1) / d) = -q - 1) := by show _ = _; rw [ceil_s h0 h2 (by rw [HR.out]; omega), HQ.out]; omega
    rw [e.out]
    have hp : 0 < r := by omega
    go_enter Try.func88, Try.ntmps88
    go_wp2
    go_ret
    exact ⟨rfl, rfl⟩
theorem baseCeil_nn (n d : Int) (w : World) (h0 : 0 ≤ n) (h1 : n ≤ 1000000000000000000) (h2 : 0 < d) (h3 : d ≤ 1000000000000000000) :
    Calls Try.prog 89 #[.int .i64 n, .int .i64 d] w fun e w' => e = .returned (.int .i64 ((n + d - 1) / d)) ∧ w = w' := by
  have b1 : 0 ≤ (n + d - 1) / d := Int.ediv_nonneg (by omega) (by omega)
  have b2 : (n + d - 1) / d ≤ n + d - 1 := Int.ediv_le_self _ (by omega)
  have hF := Lib.hid fun w => baseFloor_neg n d w h0 h1 h2 h3
  obtain ⟨c, hc⟩ : ∃ c, Hid ((n + d - 1) / d = c) := ⟨_, rfl⟩
  rw [hc.out] at b1 b2 ⊢
  have hF2 := Lib.hid fun w => (by have := hF.out w; rw [hc.out] at this; exact this : Calls Try.prog 88 #[.int .i64 (-n), .int .i64 d] w fun e w' => e = .returned (.int .i64 (-c)) ∧ w = w')
  go_enter Try.func89, Try.ntmps89
  go_wp2_with ((go_at_call 88; ((with_reducible refine (hF2.out _).mono ?_)); rintro e w' ⟨rfl, rfl⟩))
  go_ret
  exact ⟨ret_int (by simp), rfl⟩
end Go.Proofs.Ytjkhjjmmkdfjmaa

namespace Go.Proofs.Ytjkhjjmmkdfjmaa
set_option linter.unusedVariables false
theorem up_nn {n d : Int} (h0 : 0 ≤ n) (h2 : 0 < d) : upI n d = (n + d - 1) / d := by
  unfold upI
  have h := Int.emod_add_mul_ediv n d
  have hl := Int.emod_lt_of_pos n h2
  have h1 := Int.emod_nonneg n (show d ≠ 0 by omega)
  by_cases hr : n % d = 0
  · rw [ceil_z h0 h2 hr]
    have e : -n = d * (-(n / d)) := by rw [Int.mul_neg]; omega
    rw [e, Int.mul_ediv_cancel_left _ (by omega)]
    omega
  · rw [ceil_s h0 h2 (by omega)]
    have e : -n = (d - n % d) + d * (-(n / d) - 1) := by rw [Int.mul_sub, Int.mul_neg]; omega
    rw [e, Int.add_mul_ediv_left _ _ (by omega), Int.ediv_eq_zero_of_lt (by omega) (by omega)]
    omega
end Go.Proofs.Ytjkhjjmmkdfjmaa

namespace Go.Proofs.Ytjkhjjmmkdfjmaa
open Go.ChangeShapes Go.WideShapes Go.ChangeAt Go.RowKit
set_option linter.unusedVariables false
set_option linter.unusedSimpArgs false
attribute [local go_sem ↓] Go.wp_at_zero Go.wp_at_succ
theorem baseFloor_q (n d q : Int) (w : World) (h0 : 0 ≤ n) (h1 : n ≤ 1000000000000000000) (h2 : 0 < d) (h3 : d ≤ 1000000000000000000) (hq : Hid (n / d = q)) :
    Calls Try.prog 88 #[.int .i64 n, .int .i64 d] w fun e w' => e = .returned (.int .i64 q) ∧ w = w' := by
  rw [← hq.out]; exact baseFloor_nn n d w h0 h1 h2 h3
theorem baseCeil_q (n d q : Int) (w : World) (h0 : 0 ≤ n) (h1 : n ≤ 1000000000000000000) (h2 : 0 < d) (h3 : d ≤ 1000000000000000000) (hq : Hid (upI n d = q)) :
    Calls Try.prog 89 #[.int .i64 n, .int .i64 d] w fun e w' => e = .returned (.int .i64 q) ∧ w = w' := by
  rw [← hq.out, up_nn h0 h2]; exact baseCeil_nn n d w h0 h1 h2 h3
theorem refRounded_nn (n d q r : Int) (w : World) (h0 : 0 ≤ n) (h1 : n ≤ 1000000000000000000) (h2 : 0 < d) (h3 : d ≤ 1000000000000000000) (hq : Hid (n / d = q)) (hr : Hid (upI n d = r)) :
    Calls Try.prog 73 #[.int .i64 n, .int .i64 d] w fun e w' => e = .returned (.agg #[.int .i64 q, .int .i64 r]) ∧ Below w.heap.size w w' := by
  go_enter Try.func73, Try.ntmps73
  go_wp2_with (first | (go_at_call 88; ((with_reducible refine (baseFloor_q n d q _ h0 h1 h2 h3 hq).mono ?_)); rintro e w' ⟨rfl, rfl⟩) | (go_at_call 89; ((with_reducible refine (baseCeil_q n d r _ h0 h1 h2 h3 hr).mono ?_)); rintro e w' ⟨rfl, rfl⟩))
  refine bodyPost_ret (v := .agg #[.int .i64 q, .int .i64 r]) (by simp [results, Try.results73, go_sem]) rfl ⟨rfl, ?_⟩
  exact belA
end Go.Proofs.Ytjkhjjmmkdfjmaa

namespace Go.Proofs.Ytjkhjjmmkdfjmaa
open Go.ChangeShapes Go.WideShapes Go.ChangeAt Go.RowKit
set_option linter.unusedVariables false
set_option linter.unusedSimpArgs false
attribute [local go_sem ↓] Go.wp_at_zero Go.wp_at_succ
/-- The vessel's pressure, or the error. -/
def PrPost (L : List Ve) (X : List Fl) (s : ByteArray) (w : World) (e : Ending) (w' : World) : Prop :=
  ((¬ (behP L X).2 = 0 ∧ e = .returned (.tuple #[.agg #[.int .i64 0, .int .i64 0], .int .i64 (behP L X).2])) ∨
  ((behP L X).2 = 0 ∧ fndV s L = -1 ∧ e = .returned (.tuple #[.agg #[.int .i64 0, .int .i64 0], .int .i64 6])) ∨
  ((behP L X).2 = 0 ∧ ∃ (q : Nat) (hq : q < (runR (rm0 L) X).H.length), fndV s L = q ∧ e = .returned (.tuple #[.agg #[.int .i64 (1000 * ((runR (rm0 L) X).H[q].a + (runR (rm0 L) X).H[q].b + (runR (rm0 L) X).H[q].c) / (runR (rm0 L) X).H[q].v), .int .i64 (upI (1000 * ((runR (rm0 L) X).H[q].a + (runR (rm0 L) X).H[q].b + (runR (rm0 L) X).H[q].c)) (runR (rm0 L) X).H[q].v)], .int .i64 0]))) ∧ Below w.heap.size w w'
set_option maxHeartbeats 4000000 in
set_option maxRecDepth 100000 in
theorem PressureOf_any (L : List Ve) (A : Option Addr) (cap n : Nat) (X : List Fl) (fA : Option Addr) (fcap m : Nat) (s : ByteArray) (w : World) (hlen : Hid (n = L.length)) (hl : n ≤ 1000000) (hsz : Hid (∀ g ∈ L, g.nm.size ≤ 1000000)) (hL : Hid (SlRows veV 3 w A L)) (hm : Hid (m = X.length)) (hX : Hid (SlRows flV 8 w fA X)) : Calls Try.prog 25 #[.slice A n cap, .slice fA m fcap, .string s] w (PrPost L X s w) := by
  obtain ⟨E, hE⟩ : ∃ E, Hid ((behP L X).2 = E) := ⟨_, Lib.hid rfl⟩
  have HL : Hid (∀ x, Below w.heap.size w x → SlRows veV 3 x A L) := Lib.hid fun x hb => hL.out.below hb
  have HX : Hid (∀ x, Below w.heap.size w x → SlRows flV 8 x fA X) := Lib.hid fun x hb => hX.out.below hb
  go_enter Try.func25, Try.ntmps25
  go_wp2_with fail
  refine (vesselBehind_any L A cap n X fA fcap m s _ hlen hl hsz (Lib.hid (HL.out _ ((Below.refl _ _).alloc (Nat.le_refl _) _))) hm (Lib.hid (HX.out _ ((Below.refl _ _).alloc (Nat.le_refl _) _)))).mono ?_
  rintro e x1 ⟨hpost, hb1⟩
  have z1 := hb1.size
  try simp at z1
  obtain ⟨q0, q1⟩ : x1.cell? ⟨w.heap.size, 0, none⟩ = some (.int .i64 0) ∧ x1.cell? ⟨w.heap.size, 1, none⟩ = some (.int .i64 0) := by refine ⟨?_, ?_⟩ <;> (rw [bc1 hb1]; simp [go_sem, cP, *])
  have qf : ∀ j, x1.frozen? ⟨w.heap.size, j, none⟩ = false := fun j => by rw [bc2 hb1]; simp [go_sem, *]
  have l1 : w.heap.size < x1.heap.size := by omega
  have n1 : x1.heap.size ≠ w.heap.size := by omega
  have k1 : w.heap.size < x1.heap.size + 1 := by omega
  have m1 : w.heap.size ≠ x1.heap.size := by omega
  have hB1 : Below w.heap.size w x1 := ((Below.refl _ _).alloc (Nat.le_refl _) _).trans (hb1.mono (by simp))
  clear hb1
  rw [hE.out] at hpost
  rcases hpost with ⟨hz, rfl⟩ | ⟨hz, hf, rfl⟩ | ⟨hz, q, hq, hf, he⟩
  · have hz1 : (E != 0) = true := by simpa using hz
    go_wp2
    refine bodyPost_ret (v := .tuple #[.agg #[.int .i64 0, .int .i64 0], .int .i64 E]) (by simp [results, Try.results25, go_sem, *]) rfl ⟨Or.inl ⟨by rw [hE.out]; exact hz, by rw [hE.out]⟩, ?_⟩
    exact belA
  · subst hz
    have hf := Lib.hid hf
    go_wp2
    refine bodyPost_ret (v := .tuple #[.agg #[.int .i64 0, .int .i64 0], .int .i64 6]) (by simp [results, Try.results25, go_sem, *]) rfl ⟨Or.inr (Or.inl ⟨hE.out, hf.out, rfl⟩), ?_⟩
    exact belA
  subst hz
  obtain ⟨N, hD⟩ : ∃ N, behP L X = (N, 0) := ⟨_, Prod.ext rfl hE.out⟩
  have hok := (beh_all hD).1.hd _ (List.getElem_mem hq)
  clear hD
  obtain ⟨G, hG⟩ : ∃ G, Hid ((runR (rm0 L) X).H[q] = G) := ⟨_, Lib.hid rfl⟩
  rw [hG.out] at he hok
  subst he
  obtain ⟨_, gc, gv1, gv2, _, _⟩ := hok
  have hc := Lib.hid gc
  obtain ⟨ca, cb, cc, cs⟩ := conB_iff.1 gc
  have hf := Lib.hid hf
  clear gc
  obtain ⟨S, hS⟩ : ∃ S, Hid (G.a + G.b + G.c = S) := ⟨_, Lib.hid rfl⟩
  have S0 : 0 ≤ S ∧ S ≤ 1000000000 := by have := hS.out; omega
  go_wp2_with fail
  refine (pressureWith_any G.nm G.v G.m G.a G.b G.c 0 S (1000 * S) _ hc hS S0.1 S0.2 (by omega) (by omega) (Lib.hid (by rw [Int.add_zero]))).mono ?_
  rintro e x2 ⟨rfl, hb2⟩
  have z2 := hb2.size
  try simp at z2
  obtain ⟨r0, r1⟩ : x2.cell? ⟨w.heap.size, 0, none⟩ = some (.int .i64 0) ∧ x2.cell? ⟨w.heap.size, 1, none⟩ = some (.int .i64 0) := by refine ⟨?_, ?_⟩ <;> (rw [bc1 hb2]; simp [go_sem, cP, *])
  have rf : ∀ j, x2.frozen? ⟨w.heap.size, j, none⟩ = false := fun j => by rw [bc2 hb2]; simp [go_sem, *]
  have l2 : w.heap.size < x2.heap.size := by omega
  have n2 : x2.heap.size ≠ w.heap.size := by omega
  have k2 : w.heap.size < x2.heap.size + 1 := by omega
  have m2 : w.heap.size ≠ x2.heap.size := by omega
  have hB2 : Below w.heap.size w x2 := (hB1.alloc (by omega) _).trans (hb2.mono (by simp; omega))
  clear hb2 q0 q1 qf l1 n1 k1 m1
  go_wp2_with fail
  refine (rounded2_any (1000 * S) G.v (1000 * S / G.v) (upI (1000 * S) G.v) _ gv1 (by omega) (by omega) (by omega) (Lib.hid rfl) (Lib.hid rfl)).mono ?_
  rintro e x3 ⟨rfl, hb3⟩
  have z3 := hb3.size
  try simp at z3
  obtain ⟨t0, t1⟩ : x3.cell? ⟨w.heap.size, 0, none⟩ = some (.int .i64 0) ∧ x3.cell? ⟨w.heap.size, 1, none⟩ = some (.int .i64 0) := by refine ⟨?_, ?_⟩ <;> (rw [bc1 hb3]; simp [go_sem, cP, *])
  have tf : ∀ j, x3.frozen? ⟨w.heap.size, j, none⟩ = false := fun j => by rw [bc2 hb3]; simp [go_sem, *]
  have l3 : w.heap.size < x3.heap.size := by omega
  have n3 : x3.heap.size ≠ w.heap.size := by omega
  have k3 : w.heap.size < x3.heap.size + 1 := by omega
  have m3 : w.heap.size ≠ x3.heap.size := by omega
  have hB3 : Below w.heap.size w x3 := hB2.trans (hb3.mono hB2.size)
  clear hb3 r0 r1 rf l2 n2 k2 m2
  go_wp2
  refine bodyPost_ret (v := .tuple #[.agg #[.int .i64 (1000 * S / G.v), .int .i64 (upI (1000 * S) G.v)], .int .i64 0]) (by simp [results, Try.results25, go_sem, *]) rfl ⟨Or.inr (Or.inr ⟨hE.out, q, hq, hf.out, ?_⟩), ?_⟩
  · rw [hG.out, hS.out]
  · exact belA
end Go.Proofs.Ytjkhjjmmkdfjmaa
