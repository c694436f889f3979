import Derived.Test.YtojaompfffpofaaGreatZCSWay
import Derived.Outline
namespace Go.Proofs.YtojaompfffpofaaGreat
open Go.ChangeShapes Go.WideShapes Go.ChangeAt Go.RowKit
set_option linter.unusedVariables false
set_option linter.unusedSimpArgs false
attribute [local go_sem ↓] Go.wp_at_zero Go.wp_at_succ
/-- A right run on a chart of n places. -/
structure RunOk (n : Nat) (M : List (List Int)) (b : Int) (Q S : List Int) : Prop where
  l0 : 0 < Q.length
  l12 : Q.length ≤ 12
  ls : S.length = Q.length
  b0 : 0 ≤ b
  b1 : b ≤ 1000000
  q : ∀ i, i < Q.length → ∃ p : Nat, p < n ∧ Q.getD i 0 = (p : Int)
  s : ∀ i, i < Q.length → 0 ≤ S.getD i 0 ∧ S.getD i 0 ≤ 10000
  gap : ∀ i, i + 1 < Q.length → mAt M (Q.getD i 0).toNat (Q.getD (i + 1) 0).toNat ≠ -1
/-- When a stop is reached, and left. -/
def arrv (M : List (List Int)) (b : Int) (Q S : List Int) : Nat → Int
  | 0 => b
  | i + 1 => arrv M b Q S i + S.getD i 0 + mAt M (Q.getD i 0).toNat (Q.getD (i + 1) 0).toNat
def leav (M : List (List Int)) (b : Int) (Q S : List Int) (i : Nat) : Int := arrv M b Q S i + S.getD i 0
def prV (x : Int × Int) : List Value := [.int .i64 x.1, .int .i64 x.2]
def tmsL (M : List (List Int)) (b : Int) (Q S : List Int) (k : Nat) : List (Int × Int) := (List.range k).map fun i => (arrv M b Q S i, leav M b Q S i)
theorem tmsL_len (M : List (List Int)) (b : Int) (Q S : List Int) (k : Nat) : (tmsL M b Q S k).length = k := by simp [tmsL]
theorem tmsL_succ (M : List (List Int)) (b : Int) (Q S : List Int) (k : Nat) : tmsL M b Q S (k + 1) = tmsL M b Q S k ++ [(arrv M b Q S k, leav M b Q S k)] := by simp [tmsL, List.range_succ]
theorem arrv_B {n : Nat} {Pl : List ByteArray} {M : List (List Int)} {b : Int} {Q S : List Int} (hM : ChOk Pl M) (hn : n = Pl.length) (h : RunOk n M b Q S) : ∀ i, i < Q.length → 0 ≤ arrv M b Q S i ∧ arrv M b Q S i ≤ 1000000 + 20000 * (i : Int)
  | 0, _ => ⟨h.b0, by have := h.b1; show b ≤ _; omega⟩
  | i + 1, hi => by
    obtain ⟨h1, h2⟩ := arrv_B hM hn h i (by omega)
    obtain ⟨s1, s2⟩ := h.s i (by omega)
    obtain ⟨p, hp, e1⟩ := h.q i (by omega)
    obtain ⟨p', hp', e2⟩ := h.q (i + 1) hi
    have hg := h.gap i hi
    rw [e1, e2] at hg
    have hb := hM.bnd p p' (by omega) (by omega)
    simp only [Int.toNat_natCast] at hg
    have e : arrv M b Q S (i + 1) = arrv M b Q S i + S.getD i 0 + mAt M p p' := by
      have e3 : arrv M b Q S (i + 1) = arrv M b Q S i + S.getD i 0 + mAt M (Q.getD i 0).toNat (Q.getD (i + 1) 0).toNat := rfl
      rw [e3, e1, e2]; rfl
    rw [e]
    constructor <;> omega
/-- A number of a slice that reads as a list. -/
theorem sl_at {w : World} {A : Option Addr} {L : List Int} (h : SlRows intV 1 w A L) {i : Nat} (hi : i < L.length) : ∃ b o, A = some ⟨b, o, none⟩ ∧ b < w.heap.size ∧ ∀ j, j < L.length → w.cell? ⟨b, o + j, none⟩ = some (.int .i64 (L.getD j 0)) := by
  rcases h with h0 | ⟨b, o, rfl, hlt, h⟩
  · rw [h0] at hi; simp at hi
  · refine ⟨b, o, rfl, hlt, fun j hj => ?_⟩
    have := h j hj 0 (by omega)
    rw [Nat.mul_one, Nat.add_zero] at this
    rw [this, getD_at hj]; rfl
set_option maxRecDepth 100000 in
set_option maxHeartbeats 1000000 in
theorem stop_first (A : Option Addr) (n ca cb mb mo qb qo sb so l cq cs p : Nat) (bg sv : Int) (w : World) (hl : n ≤ 12) (hl0 : 0 < l) (hp : p < n) (s0 : 0 ≤ sv) (s1 : sv ≤ 10000) (lm : mb < w.heap.size) (lq : qb < w.heap.size) (lsb : sb < w.heap.size) (rb : Nat) (lr : rb < w.heap.size) (d0 : w.cell? ⟨qb, qo, none⟩ = some (.int .i64 p)) (d1 : w.cell? ⟨sb, so, none⟩ = some (.int .i64 sv)) :
    Calls Tryz.prog 132 #[.agg #[.slice A n ca, .slice (some ⟨mb, mo, none⟩) n cb], .agg #[.int .i64 bg, .slice (some ⟨qb, qo, none⟩) l cq, .slice (some ⟨sb, so, none⟩) l cs], .int .i64 0] w fun e w' => e = .returned (.int .i64 0) ∧ Below w.heap.size w w' := by
  have pn : (p : Int) < (n : Int) := by omega
  have l1 : (0 : Int) < (l : Int) := by omega
  have hr : rngE sv 0 10000 = 0 := rngE_t (inB_true s0 s1)
  have x1 : mb ≠ w.heap.size := by omega
  have x2 : qb ≠ w.heap.size := by omega
  have x3 : sb ≠ w.heap.size := by omega
  have x4 : mb < w.heap.size + 1 := by omega
  have x5 : qb < w.heap.size + 1 := by omega
  have x6 : sb < w.heap.size + 1 := by omega
  go_enter Tryz.func132, Tryz.ntmps132
  go_upto_region 1 with (fail)
  refine wp_region_held_drew (S := (fun w' => w'.cell? ⟨w.heap.size, 0, none⟩ = some (.slice A n ca) ∧ w'.cell? ⟨w.heap.size, 1, none⟩ = some (.slice (some ⟨mb, mo, none⟩) n cb) ∧ w'.cell? ⟨w.heap.size + 1, 0, none⟩ = some (.int .i64 bg) ∧ w'.cell? ⟨w.heap.size + 1, 1, none⟩ = some (.slice (some ⟨qb, qo, none⟩) l cq) ∧ w'.cell? ⟨w.heap.size + 1, 2, none⟩ = some (.slice (some ⟨sb, so, none⟩) l cs) ∧ w'.cell? ⟨qb, qo, none⟩ = some (.int .i64 p) ∧ w'.cell? ⟨sb, so, none⟩ = some (.int .i64 sv))) (by kernel_rfl) (by simp [go_sem, World.cell?_alloc_past, *]) (fun hHeld => ?_)
  refine tkH 0 ⟨some 8, _, _, _, _, _⟩ ?_ rfl ?_ (by assumption) ?_
  rotate_left
  · (intro w hSw; (try dsimp only at hSw); go_simp; all_goals with_reducible rfl)
  try simp only [Act.put, sA, sB, sC]
  refine tkH 1 ⟨some 9, _, _, _, _, _⟩ ?_ rfl ?_ (by assumption) ?_
  rotate_left
  · (intro w hSw; (try dsimp only at hSw); go_simp; all_goals with_reducible rfl)
  try simp only [Act.put, sA, sB, sC]
  refine tkH 2 ⟨some 10, _, _, _, _, _⟩ ?_ rfl ?_ (by assumption) ?_
  rotate_left
  · (intro w hSw; (try dsimp only at hSw); go_simp; all_goals with_reducible rfl)
  try simp only [Act.put, sA, sB, sC]
  refine tkH 3 ⟨some 11, _, _, _, _, _⟩ ?_ rfl ?_ (by assumption) ?_
  rotate_left
  · (intro w hSw; (try dsimp only at hSw); go_simp; all_goals with_reducible rfl)
  try simp only [Act.put, sA, sB, sC]
  refine tkH 4 ⟨some 12, _, _, _, _, _⟩ ?_ rfl ?_ (by assumption) ?_
  rotate_left
  · (intro w hSw; (try dsimp only at hSw); go_simp; all_goals with_reducible rfl)
  try simp only [Act.put, sA, sB, sC]
  refine tkH 5 ⟨some 13, _, _, _, _, _⟩ ?_ rfl ?_ (by assumption) ?_
  rotate_left
  · (intro w hSw; (try dsimp only at hSw); go_simp; all_goals with_reducible rfl)
  try simp only [Act.put, sA, sB, sC]
  refine tkH 7 ⟨some 15, _, _, _, _, _⟩ ?_ rfl ?_ (by assumption) ?_
  rotate_left
  · (intro w hSw; (try dsimp only at hSw); go_simp; all_goals with_reducible rfl)
  try simp only [Act.put, sA, sB, sC]
  refine tkH 8 ⟨some 16, _, _, _, _, _⟩ ?_ rfl ?_ (by assumption) ?_
  rotate_left
  · (intro w hSw; (try dsimp only at hSw); go_simp; all_goals with_reducible rfl)
  try simp only [Act.put, sA, sB, sC]
  refine tkH 9 ⟨some 17, _, _, _, _, _⟩ ?_ rfl ?_ (by assumption) ?_
  rotate_left
  · (intro w hSw; (try dsimp only at hSw); go_simp; all_goals with_reducible rfl)
  try simp only [Act.put, sA, sB, sC]
  refine tkH 10 ⟨some 18, _, _, _, _, _⟩ ?_ rfl ?_ (by assumption) ?_
  rotate_left
  · (intro w hSw; (try dsimp only at hSw); go_simp; all_goals with_reducible rfl)
  try simp only [Act.put, sA, sB, sC]
  refine tkH 11 ⟨some 19, _, _, _, _, _⟩ ?_ rfl ?_ (by assumption) ?_
  rotate_left
  · (intro w hSw; (try dsimp only at hSw); go_simp; all_goals with_reducible rfl)
  try simp only [Act.put, sA, sB, sC]
  refine wpAnyH_ready (rs := [6]) (by kernel_rfl) (by simp) ?_
  refine AllReadyH.cons rfl (fun K hK => ?_) AllReadyH.nil
  go_simp
  refine (place_is A (some ⟨mb, mo, none⟩) n ca cb p 0 _ (by omega) (Lib.hid (plcE_in (by omega) (by omega)))).mono ?_
  rintro e y2 ⟨rfl, hb2⟩
  have z2 := hb2.size
  try simp at z2
  have q2_0 : y2.cell? ⟨w.heap.size, 0, none⟩ = some (.slice A n ca) := by rw [(bcell hb2).1 _ _ (by first | (simp; done) | (simp; omega) | omega)]; simp [go_sem, *]
  have q2_1 : y2.cell? ⟨w.heap.size, 1, none⟩ = some (.slice (some ⟨mb, mo, none⟩) n cb) := by rw [(bcell hb2).1 _ _ (by first | (simp; done) | (simp; omega) | omega)]; simp [go_sem, *]
  have q2_2 : y2.cell? ⟨w.heap.size + 1, 0, none⟩ = some (.int .i64 bg) := by rw [(bcell hb2).1 _ _ (by first | (simp; done) | (simp; omega) | omega)]; simp [go_sem, *]
  have q2_3 : y2.cell? ⟨w.heap.size + 1, 1, none⟩ = some (.slice (some ⟨qb, qo, none⟩) l cq) := by rw [(bcell hb2).1 _ _ (by first | (simp; done) | (simp; omega) | omega)]; simp [go_sem, *]
  have q2_4 : y2.cell? ⟨w.heap.size + 1, 2, none⟩ = some (.slice (some ⟨sb, so, none⟩) l cs) := by rw [(bcell hb2).1 _ _ (by first | (simp; done) | (simp; omega) | omega)]; simp [go_sem, *]
  have q2_5 : y2.cell? ⟨qb, qo, none⟩ = some (.int .i64 p) := by rw [(bcell hb2).1 _ _ (by first | (simp; done) | (simp; omega) | omega)]; simp [go_sem, *]
  have q2_6 : y2.cell? ⟨sb, so, none⟩ = some (.int .i64 sv) := by rw [(bcell hb2).1 _ _ (by first | (simp; done) | (simp; omega) | omega)]; simp [go_sem, *]
  have hB2 : Below w.heap.size w y2 := (by (repeat (first | (with_reducible refine Below.drew ?_) | (with_reducible refine below_drewN ?_ _) | (with_reducible refine Below.alloc ?_ (by first | omega | (simp; done) | (simp; omega) | (simp at *; omega)) _) | (with_reducible refine Below.setCell ?_ (by first | omega | (simp; done) | (simp; omega) | (simp at *; omega)) _) | (with_reducible exact Below.refl _ _) | (with_reducible assumption) | (with_reducible refine Below.trans ?_ (Below.mono (by assumption) (by first | omega | (simp; done) | (simp; omega) | (simp at *; omega)))))))
  have o2_0 : w.heap.size < y2.heap.size := by omega
  have m2_0 : y2.heap.size ≠ w.heap.size := by omega
  have o2_1 : w.heap.size + 1 < y2.heap.size := by omega
  have m2_1 : y2.heap.size ≠ w.heap.size + 1 := by omega
  have o2_2 : mb < y2.heap.size := by omega
  have m2_2 : y2.heap.size ≠ mb := by omega
  have o2_3 : qb < y2.heap.size := by omega
  have m2_3 : y2.heap.size ≠ qb := by omega
  have o2_4 : sb < y2.heap.size := by omega
  have m2_4 : y2.heap.size ≠ sb := by omega
  have o2_5 : rb < y2.heap.size := by omega
  have m2_5 : y2.heap.size ≠ rb := by omega
  clear hb2 
  go_wp2_with fail
  refine hK.out _ _ (by simp [go_sem, World.cell?_alloc_past, *]) (fun hHeld => ?_)
  clear hK K
  try simp only [Act.put, sA, sB, sC]
  refine wpAnyH_ready (rs := [12]) (by kernel_rfl) (by simp) ?_
  refine AllReadyH.cons rfl (fun K hK => ?_) AllReadyH.nil
  go_simp
  refine (cRange_any _ _ _ _).mono ?_
  rintro e w' ⟨rfl, rfl⟩
  go_wp2_with fail
  refine hK.out _ _ (by simp [go_sem, World.cell?_alloc_past, *]) (fun hHeld => ?_)
  clear hK K
  try simp only [Act.put, sA, sB, sC]
  refine wpAnyH_ready (rs := [13]) (by kernel_rfl) (by simp) ?_
  refine AllReadyH.cons rfl (fun K hK => ?_) AllReadyH.nil
  go_simp
  go_wp2_with fail
  refine hK.out _ _ (by simp [go_sem, World.cell?_alloc_past, *]) (fun hHeld => ?_)
  clear hK K
  try simp only [Act.put, sA, sB, sC]
  refine wpAnyH_ready (rs := [14]) (by kernel_rfl) (by simp) ?_
  refine AllReadyH.cons rfl (fun K hK => ?_) AllReadyH.nil
  go_simp
  refine (cF2x 0 0 0 _ _ (Lib.hid rfl) (by simp [go_sem]) (by simp [go_sem])).mono ?_
  rintro e w' ⟨rfl, rfl⟩
  go_wp2_with fail
  refine hK.out _ _ (by simp [go_sem, World.cell?_alloc_past, *]) (fun hHeld => ?_)
  clear hK K
  try simp only [Act.put, sA, sB, sC]
  refine tkH 15 ⟨some 7, _, _, _, _, _⟩ ?_ rfl ?_ (by assumption) ?_
  rotate_left
  · (intro w hSw; (try dsimp only at hSw); go_simp; all_goals with_reducible rfl)
  try simp only [Act.put, sA, sB, sC]
  refine wpAnyH_done (by kernel_rfl) ?_ _
  go_upto_region 4 with (fail)
  refine wp_region_held_drew (S := (fun w' => w'.cell? ⟨w.heap.size, 0, none⟩ = some (.slice A n ca) ∧ w'.cell? ⟨w.heap.size, 1, none⟩ = some (.slice (some ⟨mb, mo, none⟩) n cb) ∧ w'.cell? ⟨w.heap.size + 1, 0, none⟩ = some (.int .i64 bg) ∧ w'.cell? ⟨w.heap.size + 1, 1, none⟩ = some (.slice (some ⟨qb, qo, none⟩) l cq) ∧ w'.cell? ⟨w.heap.size + 1, 2, none⟩ = some (.slice (some ⟨sb, so, none⟩) l cs) ∧ w'.cell? ⟨qb, qo, none⟩ = some (.int .i64 p) ∧ w'.cell? ⟨sb, so, none⟩ = some (.int .i64 sv))) (by kernel_rfl) (by simp [go_sem, World.cell?_alloc_past, *]) (fun hHeld => ?_)
  refine tkH 0 ⟨some 26, _, _, _, _, _⟩ ?_ rfl ?_ (by assumption) ?_
  rotate_left
  · (intro w hSw; (try dsimp only at hSw); go_simp; all_goals with_reducible rfl)
  try simp only [Act.put, sA, sB, sC]
  refine tkH 1 ⟨some 27, _, _, _, _, _⟩ ?_ rfl ?_ (by assumption) ?_
  rotate_left
  · (intro w hSw; (try dsimp only at hSw); go_simp; all_goals with_reducible rfl)
  try simp only [Act.put, sA, sB, sC]
  refine tkH 2 ⟨some 28, _, _, _, _, _⟩ ?_ rfl ?_ (by assumption) ?_
  rotate_left
  · (intro w hSw; (try dsimp only at hSw); go_simp; all_goals with_reducible rfl)
  try simp only [Act.put, sA, sB, sC]
  refine skH 3 ⟨some 29, _, _, _, _, _⟩ rfl (by assumption) ?_
  try simp only [Act.put, sA, sB, sC]
  refine skH 4 ⟨some 30, _, _, _, _, _⟩ rfl (by assumption) ?_
  try simp only [Act.put, sA, sB, sC]
  refine skH 5 ⟨some 31, _, _, _, _, _⟩ rfl (by assumption) ?_
  try simp only [Act.put, sA, sB, sC]
  refine skH 6 ⟨some 32, _, _, _, _, _⟩ rfl (by assumption) ?_
  try simp only [Act.put, sA, sB, sC]
  refine skH 7 ⟨some 33, _, _, _, _, _⟩ rfl (by assumption) ?_
  try simp only [Act.put, sA, sB, sC]
  refine skH 8 ⟨some 34, _, _, _, _, _⟩ rfl (by assumption) ?_
  try simp only [Act.put, sA, sB, sC]
  refine skH 9 ⟨some 35, _, _, _, _, _⟩ rfl (by assumption) ?_
  try simp only [Act.put, sA, sB, sC]
  refine skH 10 ⟨some 36, _, _, _, _, _⟩ rfl (by assumption) ?_
  try simp only [Act.put, sA, sB, sC]
  refine skH 11 ⟨some 37, _, _, _, _, _⟩ rfl (by assumption) ?_
  try simp only [Act.put, sA, sB, sC]
  refine skH 12 ⟨some 38, _, _, _, _, _⟩ rfl (by assumption) ?_
  try simp only [Act.put, sA, sB, sC]
  refine skH 13 ⟨some 39, _, _, _, _, _⟩ rfl (by assumption) ?_
  try simp only [Act.put, sA, sB, sC]
  refine skH 14 ⟨some 40, _, _, _, _, _⟩ rfl (by assumption) ?_
  try simp only [Act.put, sA, sB, sC]
  refine skH 15 ⟨some 41, _, _, _, _, _⟩ rfl (by assumption) ?_
  try simp only [Act.put, sA, sB, sC]
  refine skH 16 ⟨some 42, _, _, _, _, _⟩ rfl (by assumption) ?_
  try simp only [Act.put, sA, sB, sC]
  refine skH 17 ⟨some 43, _, _, _, _, _⟩ rfl (by assumption) ?_
  try simp only [Act.put, sA, sB, sC]
  refine skH 18 ⟨some 44, _, _, _, _, _⟩ rfl (by assumption) ?_
  try simp only [Act.put, sA, sB, sC]
  refine skH 19 ⟨some 45, _, _, _, _, _⟩ rfl (by assumption) ?_
  try simp only [Act.put, sA, sB, sC]
  refine skH 20 ⟨some 46, _, _, _, _, _⟩ rfl (by assumption) ?_
  try simp only [Act.put, sA, sB, sC]
  refine tkH 21 ⟨some 47, _, _, _, _, _⟩ ?_ rfl ?_ (by assumption) ?_
  rotate_left
  · (intro w hSw; (try dsimp only at hSw); go_simp; all_goals with_reducible rfl)
  try simp only [Act.put, sA, sB, sC]
  refine wpAnyH_done (by kernel_rfl) ?_ _
  go_wp2
  go_ret
  exact ⟨rfl, (by (repeat (first | (with_reducible refine Below.drew ?_) | (with_reducible refine below_drewN ?_ _) | (with_reducible refine Below.alloc ?_ (by first | omega | (simp; done) | (simp; omega) | (simp at *; omega)) _) | (with_reducible refine Below.setCell ?_ (by first | omega | (simp; done) | (simp; omega) | (simp at *; omega)) _) | (with_reducible exact Below.refl _ _) | (with_reducible assumption) | (with_reducible refine Below.trans ?_ (Below.mono (by assumption) (by first | omega | (simp; done) | (simp; omega) | (simp at *; omega)))))))⟩
set_option maxRecDepth 100000 in
set_option maxHeartbeats 1000000 in
theorem stop_next (A : Option Addr) (n ca cb mb mo qb qo sb so l cq cs p p' rb ro cr k : Nat) (bg sv m : Int) (w : World) (hl : n ≤ 12) (hl12 : l ≤ 12) (hk0 : 0 < k) (hkl : k < l) (hp : p < n) (hp' : p' < n) (s0 : 0 ≤ sv) (s1 : sv ≤ 10000) (hm : Hid (m ≠ -1)) (lm : mb < w.heap.size) (lq : qb < w.heap.size) (lsb : sb < w.heap.size) (lr : rb < w.heap.size) (d0 : w.cell? ⟨qb, qo + k, none⟩ = some (.int .i64 p)) (d1 : w.cell? ⟨sb, so + k, none⟩ = some (.int .i64 sv)) (d2 : w.cell? ⟨qb, qo + (k - 1), none⟩ = some (.int .i64 p')) (d3 : w.cell? ⟨mb, mo + p', none⟩ = some (.slice (some ⟨rb, ro, none⟩) n cr)) (d4 : w.cell? ⟨rb, ro + p, none⟩ = some (.int .i64 m)) :
    Calls Tryz.prog 132 #[.agg #[.slice A n ca, .slice (some ⟨mb, mo, none⟩) n cb], .agg #[.int .i64 bg, .slice (some ⟨qb, qo, none⟩) l cq, .slice (some ⟨sb, so, none⟩) l cs], .int .i64 k] w fun e w' => e = .returned (.int .i64 0) ∧ Below w.heap.size w w' := by
  have pn : (p : Int) < (n : Int) := by omega
  have pn' : (p' : Int) < (n : Int) := by omega
  have kn : (k : Int) < (l : Int) := by omega
  have kp : (0 : Int) < (k : Int) := by omega
  have hr : rngE sv 0 10000 = 0 := rngE_t (inB_true s0 s1)
  have w2 : IntKind.i64.wrap ((k : Int) - 1) = (k : Int) - 1 := IntWalk.i64_in _ (by omega)
  have j2 : (0 : Int) ≤ (k : Int) - 1 := by omega
  have j2' : (1 : Int) ≤ (k : Int) := by omega
  have j3 : ((k : Int) - 1).toNat = k - 1 := by omega
  have j4 : (k : Int) - 1 < (l : Int) := by omega
  have nm : (m == -1) = false := by simpa using hm.out
  have nm2 : decide (0 < (k : Int)) = true := by simpa using hk0
  have x1 : mb ≠ w.heap.size := by omega
  have x2 : qb ≠ w.heap.size := by omega
  have x3 : sb ≠ w.heap.size := by omega
  have x7 : rb ≠ w.heap.size := by omega
  have x4 : mb < w.heap.size + 1 := by omega
  have x5 : qb < w.heap.size + 1 := by omega
  have x6 : sb < w.heap.size + 1 := by omega
  have x8 : rb < w.heap.size + 1 := by omega
  go_enter Tryz.func132, Tryz.ntmps132
  go_upto_region 1 with (fail)
  refine wp_region_held_drew (S := (fun w' => w'.cell? ⟨w.heap.size, 0, none⟩ = some (.slice A n ca) ∧ w'.cell? ⟨w.heap.size, 1, none⟩ = some (.slice (some ⟨mb, mo, none⟩) n cb) ∧ w'.cell? ⟨w.heap.size + 1, 0, none⟩ = some (.int .i64 bg) ∧ w'.cell? ⟨w.heap.size + 1, 1, none⟩ = some (.slice (some ⟨qb, qo, none⟩) l cq) ∧ w'.cell? ⟨w.heap.size + 1, 2, none⟩ = some (.slice (some ⟨sb, so, none⟩) l cs) ∧ w'.cell? ⟨qb, qo + k, none⟩ = some (.int .i64 p) ∧ w'.cell? ⟨sb, so + k, none⟩ = some (.int .i64 sv) ∧ w'.cell? ⟨qb, qo + (k - 1), none⟩ = some (.int .i64 p') ∧ w'.cell? ⟨mb, mo + p', none⟩ = some (.slice (some ⟨rb, ro, none⟩) n cr) ∧ w'.cell? ⟨rb, ro + p, none⟩ = some (.int .i64 m))) (by kernel_rfl) (by simp [go_sem, World.cell?_alloc_past, *]) (fun hHeld => ?_)
  refine tkH 0 ⟨some 8, _, _, _, _, _⟩ ?_ rfl ?_ (by assumption) ?_
  rotate_left
  · (intro w hSw; (try dsimp only at hSw); go_simp; all_goals with_reducible rfl)
  try simp only [Act.put, sA, sB, sC]
  refine tkH 1 ⟨some 9, _, _, _, _, _⟩ ?_ rfl ?_ (by assumption) ?_
  rotate_left
  · (intro w hSw; (try dsimp only at hSw); go_simp; all_goals with_reducible rfl)
  try simp only [Act.put, sA, sB, sC]
  refine tkH 2 ⟨some 10, _, _, _, _, _⟩ ?_ rfl ?_ (by assumption) ?_
  rotate_left
  · (intro w hSw; (try dsimp only at hSw); go_simp; all_goals with_reducible rfl)
  try simp only [Act.put, sA, sB, sC]
  refine tkH 3 ⟨some 11, _, _, _, _, _⟩ ?_ rfl ?_ (by assumption) ?_
  rotate_left
  · (intro w hSw; (try dsimp only at hSw); go_simp; all_goals with_reducible rfl)
  try simp only [Act.put, sA, sB, sC]
  refine tkH 4 ⟨some 12, _, _, _, _, _⟩ ?_ rfl ?_ (by assumption) ?_
  rotate_left
  · (intro w hSw; (try dsimp only at hSw); go_simp; all_goals with_reducible rfl)
  try simp only [Act.put, sA, sB, sC]
  refine tkH 5 ⟨some 13, _, _, _, _, _⟩ ?_ rfl ?_ (by assumption) ?_
  rotate_left
  · (intro w hSw; (try dsimp only at hSw); go_simp; all_goals with_reducible rfl)
  try simp only [Act.put, sA, sB, sC]
  refine tkH 7 ⟨some 15, _, _, _, _, _⟩ ?_ rfl ?_ (by assumption) ?_
  rotate_left
  · (intro w hSw; (try dsimp only at hSw); go_simp; all_goals with_reducible rfl)
  try simp only [Act.put, sA, sB, sC]
  refine tkH 8 ⟨some 16, _, _, _, _, _⟩ ?_ rfl ?_ (by assumption) ?_
  rotate_left
  · (intro w hSw; (try dsimp only at hSw); go_simp; all_goals with_reducible rfl)
  try simp only [Act.put, sA, sB, sC]
  refine tkH 9 ⟨some 17, _, _, _, _, _⟩ ?_ rfl ?_ (by assumption) ?_
  rotate_left
  · (intro w hSw; (try dsimp only at hSw); go_simp; all_goals with_reducible rfl)
  try simp only [Act.put, sA, sB, sC]
  refine tkH 10 ⟨some 18, _, _, _, _, _⟩ ?_ rfl ?_ (by assumption) ?_
  rotate_left
  · (intro w hSw; (try dsimp only at hSw); go_simp; all_goals with_reducible rfl)
  try simp only [Act.put, sA, sB, sC]
  refine tkH 11 ⟨some 19, _, _, _, _, _⟩ ?_ rfl ?_ (by assumption) ?_
  rotate_left
  · (intro w hSw; (try dsimp only at hSw); go_simp; all_goals with_reducible rfl)
  try simp only [Act.put, sA, sB, sC]
  refine wpAnyH_ready (rs := [6]) (by kernel_rfl) (by simp) ?_
  refine AllReadyH.cons rfl (fun K hK => ?_) AllReadyH.nil
  go_simp
  refine (place_is A (some ⟨mb, mo, none⟩) n ca cb p 0 _ (by omega) (Lib.hid (plcE_in (by omega) (by omega)))).mono ?_
  rintro e y2 ⟨rfl, hb2⟩
  have z2 := hb2.size
  try simp at z2
  have q2_0 : y2.cell? ⟨w.heap.size, 0, none⟩ = some (.slice A n ca) := by rw [(bcell hb2).1 _ _ (by first | (simp; done) | (simp; omega) | omega)]; simp [go_sem, *]
  have q2_1 : y2.cell? ⟨w.heap.size, 1, none⟩ = some (.slice (some ⟨mb, mo, none⟩) n cb) := by rw [(bcell hb2).1 _ _ (by first | (simp; done) | (simp; omega) | omega)]; simp [go_sem, *]
  have q2_2 : y2.cell? ⟨w.heap.size + 1, 0, none⟩ = some (.int .i64 bg) := by rw [(bcell hb2).1 _ _ (by first | (simp; done) | (simp; omega) | omega)]; simp [go_sem, *]
  have q2_3 : y2.cell? ⟨w.heap.size + 1, 1, none⟩ = some (.slice (some ⟨qb, qo, none⟩) l cq) := by rw [(bcell hb2).1 _ _ (by first | (simp; done) | (simp; omega) | omega)]; simp [go_sem, *]
  have q2_4 : y2.cell? ⟨w.heap.size + 1, 2, none⟩ = some (.slice (some ⟨sb, so, none⟩) l cs) := by rw [(bcell hb2).1 _ _ (by first | (simp; done) | (simp; omega) | omega)]; simp [go_sem, *]
  have q2_5 : y2.cell? ⟨qb, qo + k, none⟩ = some (.int .i64 p) := by rw [(bcell hb2).1 _ _ (by first | (simp; done) | (simp; omega) | omega)]; simp [go_sem, *]
  have q2_6 : y2.cell? ⟨sb, so + k, none⟩ = some (.int .i64 sv) := by rw [(bcell hb2).1 _ _ (by first | (simp; done) | (simp; omega) | omega)]; simp [go_sem, *]
  have q2_7 : y2.cell? ⟨qb, qo + (k - 1), none⟩ = some (.int .i64 p') := by rw [(bcell hb2).1 _ _ (by first | (simp; done) | (simp; omega) | omega)]; simp [go_sem, *]
  have q2_8 : y2.cell? ⟨mb, mo + p', none⟩ = some (.slice (some ⟨rb, ro, none⟩) n cr) := by rw [(bcell hb2).1 _ _ (by first | (simp; done) | (simp; omega) | omega)]; simp [go_sem, *]
  have q2_9 : y2.cell? ⟨rb, ro + p, none⟩ = some (.int .i64 m) := by rw [(bcell hb2).1 _ _ (by first | (simp; done) | (simp; omega) | omega)]; simp [go_sem, *]
  have hB2 : Below w.heap.size w y2 := (by (repeat (first | (with_reducible refine Below.drew ?_) | (with_reducible refine below_drewN ?_ _) | (with_reducible refine Below.alloc ?_ (by first | omega | (simp; done) | (simp; omega) | (simp at *; omega)) _) | (with_reducible refine Below.setCell ?_ (by first | omega | (simp; done) | (simp; omega) | (simp at *; omega)) _) | (with_reducible exact Below.refl _ _) | (with_reducible assumption) | (with_reducible refine Below.trans ?_ (Below.mono (by assumption) (by first | omega | (simp; done) | (simp; omega) | (simp at *; omega)))))))
  have o2_0 : w.heap.size < y2.heap.size := by omega
  have m2_0 : y2.heap.size ≠ w.heap.size := by omega
  have o2_1 : w.heap.size + 1 < y2.heap.size := by omega
  have m2_1 : y2.heap.size ≠ w.heap.size + 1 := by omega
  have o2_2 : mb < y2.heap.size := by omega
  have m2_2 : y2.heap.size ≠ mb := by omega
  have o2_3 : qb < y2.heap.size := by omega
  have m2_3 : y2.heap.size ≠ qb := by omega
  have o2_4 : sb < y2.heap.size := by omega
  have m2_4 : y2.heap.size ≠ sb := by omega
  have o2_5 : rb < y2.heap.size := by omega
  have m2_5 : y2.heap.size ≠ rb := by omega
  clear hb2 
  go_wp2_with fail
  refine hK.out _ _ (by simp [go_sem, World.cell?_alloc_past, *]) (fun hHeld => ?_)
  clear hK K
  try simp only [Act.put, sA, sB, sC]
  refine wpAnyH_ready (rs := [12]) (by kernel_rfl) (by simp) ?_
  refine AllReadyH.cons rfl (fun K hK => ?_) AllReadyH.nil
  go_simp
  refine (cRange_any _ _ _ _).mono ?_
  rintro e w' ⟨rfl, rfl⟩
  go_wp2_with fail
  refine hK.out _ _ (by simp [go_sem, World.cell?_alloc_past, *]) (fun hHeld => ?_)
  clear hK K
  try simp only [Act.put, sA, sB, sC]
  refine wpAnyH_ready (rs := [13]) (by kernel_rfl) (by simp) ?_
  refine AllReadyH.cons rfl (fun K hK => ?_) AllReadyH.nil
  go_simp
  go_wp2_with fail
  refine hK.out _ _ (by simp [go_sem, World.cell?_alloc_past, *]) (fun hHeld => ?_)
  clear hK K
  try simp only [Act.put, sA, sB, sC]
  refine wpAnyH_ready (rs := [14]) (by kernel_rfl) (by simp) ?_
  refine AllReadyH.cons rfl (fun K hK => ?_) AllReadyH.nil
  go_simp
  refine (cF2x 0 0 0 _ _ (Lib.hid rfl) (by simp [go_sem]) (by simp [go_sem])).mono ?_
  rintro e w' ⟨rfl, rfl⟩
  go_wp2_with fail
  refine hK.out _ _ (by simp [go_sem, World.cell?_alloc_past, *]) (fun hHeld => ?_)
  clear hK K
  try simp only [Act.put, sA, sB, sC]
  refine tkH 15 ⟨some 7, _, _, _, _, _⟩ ?_ rfl ?_ (by assumption) ?_
  rotate_left
  · (intro w hSw; (try dsimp only at hSw); go_simp; all_goals with_reducible rfl)
  try simp only [Act.put, sA, sB, sC]
  refine wpAnyH_done (by kernel_rfl) ?_ _
  go_upto_region 4 with (fail)
  refine wp_region_held_drew (S := (fun w' => w'.cell? ⟨w.heap.size, 0, none⟩ = some (.slice A n ca) ∧ w'.cell? ⟨w.heap.size, 1, none⟩ = some (.slice (some ⟨mb, mo, none⟩) n cb) ∧ w'.cell? ⟨w.heap.size + 1, 0, none⟩ = some (.int .i64 bg) ∧ w'.cell? ⟨w.heap.size + 1, 1, none⟩ = some (.slice (some ⟨qb, qo, none⟩) l cq) ∧ w'.cell? ⟨w.heap.size + 1, 2, none⟩ = some (.slice (some ⟨sb, so, none⟩) l cs) ∧ w'.cell? ⟨qb, qo + k, none⟩ = some (.int .i64 p) ∧ w'.cell? ⟨sb, so + k, none⟩ = some (.int .i64 sv) ∧ w'.cell? ⟨qb, qo + (k - 1), none⟩ = some (.int .i64 p') ∧ w'.cell? ⟨mb, mo + p', none⟩ = some (.slice (some ⟨rb, ro, none⟩) n cr) ∧ w'.cell? ⟨rb, ro + p, none⟩ = some (.int .i64 m))) (by kernel_rfl) (by simp [go_sem, World.cell?_alloc_past, *]) (fun hHeld => ?_)
  refine tkH 0 ⟨some 26, _, _, _, _, _⟩ ?_ rfl ?_ (by assumption) ?_
  rotate_left
  · (intro w hSw; (try dsimp only at hSw); go_simp; all_goals with_reducible rfl)
  try simp only [Act.put, sA, sB, sC]
  refine tkH 1 ⟨some 27, _, _, _, _, _⟩ ?_ rfl ?_ (by assumption) ?_
  rotate_left
  · (intro w hSw; (try dsimp only at hSw); go_simp; all_goals with_reducible rfl)
  try simp only [Act.put, sA, sB, sC]
  refine tkH 2 ⟨some 28, _, _, _, _, _⟩ ?_ rfl ?_ (by assumption) ?_
  rotate_left
  · (intro w hSw; (try dsimp only at hSw); go_simp; all_goals with_reducible rfl)
  try simp only [Act.put, sA, sB, sC]
  refine tkH 3 ⟨some 29, _, _, _, _, _⟩ ?_ rfl ?_ (by assumption) ?_
  rotate_left
  · (intro w hSw; (try dsimp only at hSw); go_simp; all_goals with_reducible rfl)
  try simp only [Act.put, sA, sB, sC]
  refine tkH 4 ⟨some 30, _, _, _, _, _⟩ ?_ rfl ?_ (by assumption) ?_
  rotate_left
  · (intro w hSw; (try dsimp only at hSw); go_simp; all_goals with_reducible rfl)
  try simp only [Act.put, sA, sB, sC]
  refine tkH 5 ⟨some 31, _, _, _, _, _⟩ ?_ rfl ?_ (by assumption) ?_
  rotate_left
  · (intro w hSw; (try dsimp only at hSw); go_simp; all_goals with_reducible rfl)
  try simp only [Act.put, sA, sB, sC]
  refine tkH 6 ⟨some 32, _, _, _, _, _⟩ ?_ rfl ?_ (by assumption) ?_
  rotate_left
  · (intro w hSw; (try dsimp only at hSw); go_simp; all_goals with_reducible rfl)
  try simp only [Act.put, sA, sB, sC]
  refine tkH 7 ⟨some 33, _, _, _, _, _⟩ ?_ rfl ?_ (by assumption) ?_
  rotate_left
  · (intro w hSw; (try dsimp only at hSw); go_simp; all_goals with_reducible rfl)
  try simp only [Act.put, sA, sB, sC]
  refine tkH 8 ⟨some 34, _, _, _, _, _⟩ ?_ rfl ?_ (by assumption) ?_
  rotate_left
  · (intro w hSw; (try dsimp only at hSw); go_simp; all_goals with_reducible rfl)
  try simp only [Act.put, sA, sB, sC]
  refine tkH 9 ⟨some 35, _, _, _, _, _⟩ ?_ rfl ?_ (by assumption) ?_
  rotate_left
  · (intro w hSw; (try dsimp only at hSw); go_simp; all_goals with_reducible rfl)
  try simp only [Act.put, sA, sB, sC]
  refine tkH 10 ⟨some 36, _, _, _, _, _⟩ ?_ rfl ?_ (by assumption) ?_
  rotate_left
  · (intro w hSw; (try dsimp only at hSw); go_simp; all_goals with_reducible rfl)
  try simp only [Act.put, sA, sB, sC]
  refine tkH 11 ⟨some 37, _, _, _, _, _⟩ ?_ rfl ?_ (by assumption) ?_
  rotate_left
  · (intro w hSw; (try dsimp only at hSw); go_simp; all_goals with_reducible rfl)
  try simp only [Act.put, sA, sB, sC]
  refine tkH 12 ⟨some 38, _, _, _, _, _⟩ ?_ rfl ?_ (by assumption) ?_
  rotate_left
  · (intro w hSw; (try dsimp only at hSw); go_simp; all_goals with_reducible rfl)
  try simp only [Act.put, sA, sB, sC]
  refine tkH 13 ⟨some 39, _, _, _, _, _⟩ ?_ rfl ?_ (by assumption) ?_
  rotate_left
  · (intro w hSw; (try dsimp only at hSw); go_simp; all_goals with_reducible rfl)
  try simp only [Act.put, sA, sB, sC]
  refine tkH 14 ⟨some 40, _, _, _, _, _⟩ ?_ rfl ?_ (by assumption) ?_
  rotate_left
  · (intro w hSw; (try dsimp only at hSw); go_simp; all_goals with_reducible rfl)
  try simp only [Act.put, sA, sB, sC]
  refine tkH 15 ⟨some 41, _, _, _, _, _⟩ ?_ rfl ?_ (by assumption) ?_
  rotate_left
  · (intro w hSw; (try dsimp only at hSw); go_simp; all_goals with_reducible rfl)
  try simp only [Act.put, sA, sB, sC]
  refine tkH 16 ⟨some 42, _, _, _, _, _⟩ ?_ rfl ?_ (by assumption) ?_
  rotate_left
  · (intro w hSw; (try dsimp only at hSw); go_simp; all_goals with_reducible rfl)
  try simp only [Act.put, sA, sB, sC]
  refine tkH 17 ⟨some 43, _, _, _, _, _⟩ ?_ rfl ?_ (by assumption) ?_
  rotate_left
  · (intro w hSw; (try dsimp only at hSw); go_simp; all_goals with_reducible rfl)
  try simp only [Act.put, sA, sB, sC]
  refine tkH 18 ⟨some 44, _, _, _, _, _⟩ ?_ rfl ?_ (by assumption) ?_
  rotate_left
  · (intro w hSw; (try dsimp only at hSw); go_simp; all_goals with_reducible rfl)
  try simp only [Act.put, sA, sB, sC]
  refine tkH 19 ⟨some 45, _, _, _, _, _⟩ ?_ rfl ?_ (by assumption) ?_
  rotate_left
  · (intro w hSw; (try dsimp only at hSw); go_simp; all_goals with_reducible rfl)
  try simp only [Act.put, sA, sB, sC]
  refine tkH 20 ⟨some 46, _, _, _, _, _⟩ ?_ rfl ?_ (by assumption) ?_
  rotate_left
  · (intro w hSw; (try dsimp only at hSw); go_simp; all_goals with_reducible rfl)
  try simp only [Act.put, sA, sB, sC]
  refine tkH 21 ⟨some 47, _, _, _, _, _⟩ ?_ rfl ?_ (by assumption) ?_
  rotate_left
  · (intro w hSw; (try dsimp only at hSw); go_simp; all_goals with_reducible rfl)
  try simp only [Act.put, sA, sB, sC]
  refine wpAnyH_done (by kernel_rfl) ?_ _
  go_wp2
  go_ret
  exact ⟨rfl, (by (repeat (first | (with_reducible refine Below.drew ?_) | (with_reducible refine below_drewN ?_ _) | (with_reducible refine Below.alloc ?_ (by first | omega | (simp; done) | (simp; omega) | (simp at *; omega)) _) | (with_reducible refine Below.setCell ?_ (by first | omega | (simp; done) | (simp; omega) | (simp at *; omega)) _) | (with_reducible exact Below.refl _ _) | (with_reducible assumption) | (with_reducible refine Below.trans ?_ (Below.mono (by assumption) (by first | omega | (simp; done) | (simp; omega) | (simp at *; omega)))))))⟩
end Go.Proofs.YtojaompfffpofaaGreat
