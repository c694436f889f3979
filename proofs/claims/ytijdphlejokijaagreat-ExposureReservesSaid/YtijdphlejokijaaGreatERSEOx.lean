import Derived.Test.YtijdphlejokijaaGreatERSEAr
import Derived.Deep.CutRange
import Derived.Deep.CutBlock
import Derived.OrdersHeld
import Derived.Deep.RegionHeld
import Derived.Outline
namespace Go.Proofs.YtijdphlejokijaaGreat
open Go.ChangeShapes Go.WideShapes Go.ChangeAt Go.RowKit
set_option linter.unusedVariables false
set_option linter.unusedSimpArgs false
attribute [local go_sem ↓] Go.wp_at_zero Go.wp_at_succ
theorem b9 {u : World} {B b : Nat} {v0 v1 v2 v3 v4 v5 v6 v7 v8 : Value} (h : BlkF u B b [v0, v1, v2, v3, v4, v5, v6, v7, v8]) : u.cell? ⟨b, 0, none⟩ = some v0 ∧ u.cell? ⟨b, 1, none⟩ = some v1 ∧ u.cell? ⟨b, 2, none⟩ = some v2 ∧ u.cell? ⟨b, 3, none⟩ = some v3 ∧ u.cell? ⟨b, 4, none⟩ = some v4 ∧ u.cell? ⟨b, 5, none⟩ = some v5 ∧ u.cell? ⟨b, 6, none⟩ = some v6 ∧ u.cell? ⟨b, 7, none⟩ = some v7 ∧ u.cell? ⟨b, 8, none⟩ = some v8 := ⟨h.at' 0 _ rfl, h.at' 1 _ rfl, h.at' 2 _ rfl, h.at' 3 _ rfl, h.at' 4 _ rfl, h.at' 5 _ rfl, h.at' 6 _ rfl, h.at' 7 _ rfl, h.at' 8 _ rfl⟩
theorem gasE_o {o h : Int} (e : gasE o h = 0) : 0 ≤ o ∧ o ≤ 1000 ∧ 0 ≤ h ∧ h ≤ 1000 ∧ o + h ≤ 1000 := by
  unfold gasE at e
  by_cases h1 : inB o 0 1000 = true ∧ inB h 0 1000 = true
  · rw [if_pos h1] at e
    by_cases h2 : o + h ≤ 1000
    · have a := inB_iff.1 h1.1
      have b := inB_iff.1 h1.2
      exact ⟨a.1, a.2, b.1, b.2, h2⟩
    · rw [if_neg h2] at e; exact absurd e (by decide)
  · rw [if_neg h1] at e; exact absurd e (by decide)
theorem ox_mul {o p : Int} (o0 : 0 ≤ o) (o1 : o ≤ 1000) (p0 : 0 ≤ p) (p1 : p ≤ 100000) : 0 ≤ o * p ∧ o * p ≤ 100000000 := by
  refine ⟨Int.mul_nonneg o0 p0, ?_⟩
  have : o * p ≤ 1000 * 100000 := Int.mul_le_mul o1 p1 p0 (by omega)
  omega
set_option maxRecDepth 100000 in
theorem oxygenAt_is (o h p q : Int) (w : World) (hg : Hid (gasE o h = 0)) (p0 : 0 ≤ p) (p1 : p ≤ 100000) (hq : Hid (o * p = q)) :
    Calls Tryz.prog 76 #[.agg #[.int .i64 o, .int .i64 h], .int .i64 p] w fun e w' => e = .returned (.int .i64 q) ∧ Below w.heap.size w w' := by
  obtain ⟨k1, k2, k3, k4, k7⟩ := gasE_o hg.out
  have hpe : (paE o h p != 0) = false := by
    unfold paE
    rw [hg.out, rngE_t (inB_true p0 p1)]; rfl
  obtain ⟨y, hy⟩ : ∃ y, Hid (h * p = y) := ⟨_, Lib.hid rfl⟩
  obtain ⟨z, hz⟩ : ∃ z, Hid ((1000 - o - h) * p = z) := ⟨_, Lib.hid rfl⟩
  have HP : ∀ X : World, Calls Tryz.prog 96 #[.agg #[.int .i64 o, .int .i64 h], .int .i64 p] X fun e w' => e = .returned (.tuple #[.agg #[.int .i64 q, .int .i64 y, .int .i64 z], .int .i64 0]) ∧ Below X.heap.size X w' := fun X => by
    have := Partial_t2 o h p X hpe k1 k2 k3 k4 p0 p1 k7
    rw [hq.out, hy.out, hz.out] at this
    exact this
  go_enter Tryz.func76, Tryz.ntmps76
  go_wp2_with fail
  refine (HP _).mono ?_
  rintro e x1 ⟨rfl, hb1⟩
  have hB1 : Below w.heap.size w x1 := (by (repeat (first | (with_reducible refine Below.drew ?_) | (with_reducible refine below_drewN ?_ _) | (with_reducible refine Below.alloc ?_ (by first | omega | (simp; done) | (simp; omega) | (simp at *; omega)) _) | (with_reducible refine Below.setCell ?_ (by first | omega | (simp; done) | (simp; omega) | (simp at *; omega)) _) | (with_reducible exact Below.refl _ _) | (with_reducible assumption) | (with_reducible refine Below.trans ?_ (Below.mono (by assumption) (by first | omega | (simp; done) | (simp; omega) | (simp at *; omega)))))))
  have z1 := hB1.size
  clear hb1
  go_wp2
  go_ret
  exact ⟨rfl, (by (repeat (first | (with_reducible refine Below.drew ?_) | (with_reducible refine below_drewN ?_ _) | (with_reducible refine Below.alloc ?_ (by first | omega | (simp; done) | (simp; omega) | (simp at *; omega)) _) | (with_reducible refine Below.setCell ?_ (by first | omega | (simp; done) | (simp; omega) | (simp at *; omega)) _) | (with_reducible exact Below.refl _ _) | (with_reducible assumption) | (with_reducible refine Below.trans ?_ (Below.mono (by assumption) (by first | omega | (simp; done) | (simp; omega) | (simp at *; omega)))))))⟩
def oxLo (x : Pl) : Int := x.o * (x.su + min x.bd x.d)
def oxHi (x : Pl) : Int := x.o * (x.su + max x.bd x.d)
theorem ox_bd {x : Pl} (h : PlOk x) : 0 ≤ oxLo x ∧ oxLo x ≤ oxHi x ∧ oxHi x ≤ 31100000 := by
  obtain ⟨s, d, bd, bs, su, ga⟩ := h
  obtain ⟨o0, o1, _⟩ := gasE_o ga
  unfold oxLo oxHi
  refine ⟨Int.mul_nonneg o0 (by omega), Int.mul_le_mul_of_nonneg_left (by omega) o0, ?_⟩
  have : x.o * (x.su + max x.bd x.d) ≤ 1000 * 31100 := Int.mul_le_mul o1 (by omega) (by omega) (by omega)
  omega
set_option maxRecDepth 100000 in
set_option maxHeartbeats 2000000 in
theorem oxygen_is (x : Pl) (lo hi : Int) (w : World) (hok : Hid (PlOk x)) (hlo' : Hid (oxLo x = lo)) (hhi' : Hid (oxHi x = hi)) :
    Calls Tryz.prog 71 #[.agg #[.int .i64 x.s, .int .i64 x.d, .int .i64 x.g, .int .i64 x.nu, .int .i64 x.bs, .int .i64 x.bd, .int .i64 x.su, .int .i64 x.o, .int .i64 x.h]] w fun e w' => e = .returned (.agg #[.int .i64 lo, .int .i64 hi]) ∧ Below w.heap.size w w' := by
  obtain ⟨_, ad, abd, _, asu, ag⟩ := hok.out
  have hga := Lib.hid ag
  obtain ⟨dl, hdl⟩ : ∃ z, Hid (min x.bd x.d = z) := ⟨_, Lib.hid rfl⟩
  obtain ⟨dh, hdh⟩ : ∃ z, Hid (max x.bd x.d = z) := ⟨_, Lib.hid rfl⟩
  have hlo : Hid (x.o * (x.su + dl) = lo) := Lib.hid (by rw [← hdl.out]; exact hlo'.out)
  have hhi : Hid (x.o * (x.su + dh) = hi) := Lib.hid (by rw [← hdh.out]; exact hhi'.out)
  have l0 : 0 ≤ dl ∧ dl ≤ 30000 := by have := hdl.out; omega
  have l1 : 0 ≤ dh ∧ dh ≤ 30000 := by have := hdh.out; omega
  have w1 : IntKind.i64.wrap (x.su + dl) = x.su + dl := IntWalk.i64_in _ (by omega)
  have w2 : IntKind.i64.wrap (x.su + dh) = x.su + dh := IntWalk.i64_in _ (by omega)
  have A9 := (BlkF.made (B := w.heap.size) w [.int .i64 x.s, .int .i64 x.d, .int .i64 x.g, .int .i64 x.nu, .int .i64 x.bs, .int .i64 x.bd, .int .i64 x.su, .int .i64 x.o, .int .i64 x.h] 96 (Nat.le_refl _)).below (Below.alloc (Below.refl _ _) (Nat.le_refl _) (.cells #[.int .i64 0, .int .i64 0] 62))
  have A2 := BlkF.made (B := w.heap.size) (w.alloc (.cells #[.int .i64 x.s, .int .i64 x.d, .int .i64 x.g, .int .i64 x.nu, .int .i64 x.bs, .int .i64 x.bd, .int .i64 x.su, .int .i64 x.o, .int .i64 x.h] 96)) [.int .i64 0, .int .i64 0] 62 (by simp)
  obtain ⟨rb, hrb⟩ : ∃ b, (w.alloc (.cells #[.int .i64 x.s, .int .i64 x.d, .int .i64 x.g, .int .i64 x.nu, .int .i64 x.bs, .int .i64 x.bd, .int .i64 x.su, .int .i64 x.o, .int .i64 x.h] 96)).heap.size = b := ⟨_, rfl⟩
  have hrb2 : w.heap.size + 1 = rb := by rw [← hrb]; simp
  rw [hrb] at A2
  go_enter Tryz.func71, Tryz.ntmps71
  go_wp2_with fail
  refine (depths_is x dl dh _ hdl hdh).mono ?_
  rintro e x1 ⟨rfl, hb1⟩
  replace A9 := A9.below hb1
  replace A2 := A2.below hb1
  have hB1 : Below w.heap.size w x1 := (by (repeat (first | (with_reducible refine Below.drew ?_) | (with_reducible refine below_drewN ?_ _) | (with_reducible refine Below.alloc ?_ (by first | omega | (simp; done) | (simp; omega) | (simp at *; omega)) _) | (with_reducible refine Below.setCell ?_ (by first | omega | (simp; done) | (simp; omega) | (simp at *; omega)) _) | (with_reducible exact Below.refl _ _) | (with_reducible assumption) | (with_reducible refine Below.trans ?_ (Below.mono (by assumption) (by first | omega | (simp; done) | (simp; omega) | (simp at *; omega)))))))
  clear hb1 hrb
  try rw [hrb2]
  go_upto_region 2 with (fail)
  refine wp_worldE (fun u => BlkF u w.heap.size w.heap.size [.int .i64 x.s, .int .i64 x.d, .int .i64 x.g, .int .i64 x.nu, .int .i64 x.bs, .int .i64 x.bd, .int .i64 x.su, .int .i64 x.o, .int .i64 x.h] ∧ BlkF u w.heap.size rb [.int .i64 0, .int .i64 0] ∧ BlkF u w.heap.size x1.heap.size [.int .i64 dl, .int .i64 dh] ∧ Below w.heap.size w u) ⟨A9.below (Below.alloc (Below.refl _ _) (Nat.le_refl _) _), A2.below (Below.alloc (Below.refl _ _) (Nat.le_refl _) _), BlkF.made x1 [.int .i64 dl, .int .i64 dh] 62 hB1.size, hB1.alloc hB1.size _⟩ (fun u hu => ?_)
  have hr1 := A2.lt
  clear A9 A2
  obtain ⟨A9, A2, A3, hB0⟩ := hu
  have HNrb := Lib.hid A2
  have hl0 := A9.lt
  have hl1 := A3.lt
  have g1 := hB1.size
  obtain ⟨c0, c1, c2, c3, c4, c5, c6, c7, c8⟩ := b9 A9
  obtain ⟨d0, d1⟩ := b2 A3
  have HS : Hid (∀ y, Below u.heap.size u y → y.cell? ⟨w.heap.size, 0, none⟩ = some (.int .i64 x.s) ∧ y.cell? ⟨w.heap.size, 1, none⟩ = some (.int .i64 x.d) ∧ y.cell? ⟨w.heap.size, 2, none⟩ = some (.int .i64 x.g) ∧ y.cell? ⟨w.heap.size, 3, none⟩ = some (.int .i64 x.nu) ∧ y.cell? ⟨w.heap.size, 4, none⟩ = some (.int .i64 x.bs) ∧ y.cell? ⟨w.heap.size, 5, none⟩ = some (.int .i64 x.bd) ∧ y.cell? ⟨w.heap.size, 6, none⟩ = some (.int .i64 x.su) ∧ y.cell? ⟨w.heap.size, 7, none⟩ = some (.int .i64 x.o) ∧ y.cell? ⟨w.heap.size, 8, none⟩ = some (.int .i64 x.h) ∧ y.cell? ⟨x1.heap.size, 0, none⟩ = some (.int .i64 dl) ∧ y.cell? ⟨x1.heap.size, 1, none⟩ = some (.int .i64 dh)) := Lib.hid fun y hy => ⟨(hy.cell (p := ⟨w.heap.size, 0, none⟩) hl0).trans c0, (hy.cell (p := ⟨w.heap.size, 1, none⟩) hl0).trans c1, (hy.cell (p := ⟨w.heap.size, 2, none⟩) hl0).trans c2, (hy.cell (p := ⟨w.heap.size, 3, none⟩) hl0).trans c3, (hy.cell (p := ⟨w.heap.size, 4, none⟩) hl0).trans c4, (hy.cell (p := ⟨w.heap.size, 5, none⟩) hl0).trans c5, (hy.cell (p := ⟨w.heap.size, 6, none⟩) hl0).trans c6, (hy.cell (p := ⟨w.heap.size, 7, none⟩) hl0).trans c7, (hy.cell (p := ⟨w.heap.size, 8, none⟩) hl0).trans c8, (hy.cell (p := ⟨x1.heap.size, 0, none⟩) hl1).trans d0, (hy.cell (p := ⟨x1.heap.size, 1, none⟩) hl1).trans d1⟩
  clear A9 A2 A3 hB1 c0 c1 c2 c3 c4 c5 c6 c7 c8 d0 d1
  refine wp_region_held_drew (S := (fun w' => w'.cell? ⟨w.heap.size, 0, none⟩ = some (.int .i64 x.s) ∧ w'.cell? ⟨w.heap.size, 1, none⟩ = some (.int .i64 x.d) ∧ w'.cell? ⟨w.heap.size, 2, none⟩ = some (.int .i64 x.g) ∧ w'.cell? ⟨w.heap.size, 3, none⟩ = some (.int .i64 x.nu) ∧ w'.cell? ⟨w.heap.size, 4, none⟩ = some (.int .i64 x.bs) ∧ w'.cell? ⟨w.heap.size, 5, none⟩ = some (.int .i64 x.bd) ∧ w'.cell? ⟨w.heap.size, 6, none⟩ = some (.int .i64 x.su) ∧ w'.cell? ⟨w.heap.size, 7, none⟩ = some (.int .i64 x.o) ∧ w'.cell? ⟨w.heap.size, 8, none⟩ = some (.int .i64 x.h) ∧ w'.cell? ⟨x1.heap.size, 0, none⟩ = some (.int .i64 dl) ∧ w'.cell? ⟨x1.heap.size, 1, none⟩ = some (.int .i64 dh))) (by kernel_rfl) (HS.out _ (Below.refl _ _).drew) (fun hHeld => ?_)
  have hT0 : Below u.heap.size u u.drew := (Below.refl _ _).drew
  replace HNrb := Lib.hid (HNrb.out.below (Below.refl u.heap.size u).drew)
  generalize hdr : u.drew = v0 at *
  clear hdr
  refine tkH 0 ⟨some 6, _, _, _, _, _⟩ ?_ rfl ?_ (by assumption) ?_
  rotate_left
  · (intro w hSw; (try dsimp only at hSw); go_simp; all_goals with_reducible rfl)
  try simp only [Act.put, sA, sB, sC]
  refine tkH 1 ⟨some 7, _, _, _, _, _⟩ ?_ rfl ?_ (by assumption) ?_
  rotate_left
  · (intro w hSw; (try dsimp only at hSw); go_simp; all_goals with_reducible rfl)
  try simp only [Act.put, sA, sB, sC]
  refine tkH 2 ⟨some 8, _, _, _, _, _⟩ ?_ rfl ?_ (by assumption) ?_
  rotate_left
  · (intro w hSw; (try dsimp only at hSw); go_simp; all_goals with_reducible rfl)
  try simp only [Act.put, sA, sB, sC]
  refine tkH 3 ⟨some 9, _, _, _, _, _⟩ ?_ rfl ?_ (by assumption) ?_
  rotate_left
  · (intro w hSw; (try dsimp only at hSw); go_simp; all_goals with_reducible rfl)
  try simp only [Act.put, sA, sB, sC]
  refine tkH 4 ⟨some 10, _, _, _, _, _⟩ ?_ rfl ?_ (by assumption) ?_
  rotate_left
  · (intro w hSw; (try dsimp only at hSw); go_simp; all_goals with_reducible rfl)
  try simp only [Act.put, sA, sB, sC]
  refine tkH 5 ⟨some 11, _, _, _, _, _⟩ ?_ rfl ?_ (by assumption) ?_
  rotate_left
  · (intro w hSw; (try dsimp only at hSw); go_simp; all_goals with_reducible rfl)
  try simp only [Act.put, sA, sB, sC]
  refine tkH 6 ⟨some 12, _, _, _, _, _⟩ ?_ rfl ?_ (by assumption) ?_
  rotate_left
  · (intro w hSw; (try dsimp only at hSw); go_simp; all_goals with_reducible rfl)
  try simp only [Act.put, sA, sB, sC]
  refine tkH 8 ⟨some 14, _, _, _, _, _⟩ ?_ rfl ?_ (by assumption) ?_
  rotate_left
  · (intro w hSw; (try dsimp only at hSw); go_simp; all_goals with_reducible rfl)
  try simp only [Act.put, sA, sB, sC]
  refine tkH 9 ⟨some 15, _, _, _, _, _⟩ ?_ rfl ?_ (by assumption) ?_
  rotate_left
  · (intro w hSw; (try dsimp only at hSw); go_simp; all_goals with_reducible rfl)
  try simp only [Act.put, sA, sB, sC]
  refine tkH 10 ⟨some 16, _, _, _, _, _⟩ ?_ rfl ?_ (by assumption) ?_
  rotate_left
  · (intro w hSw; (try dsimp only at hSw); go_simp; all_goals with_reducible rfl)
  try simp only [Act.put, sA, sB, sC]
  refine tkH 11 ⟨some 17, _, _, _, _, _⟩ ?_ rfl ?_ (by assumption) ?_
  rotate_left
  · (intro w hSw; (try dsimp only at hSw); go_simp; all_goals with_reducible rfl)
  try simp only [Act.put, sA, sB, sC]
  refine tkH 12 ⟨some 18, _, _, _, _, _⟩ ?_ rfl ?_ (by assumption) ?_
  rotate_left
  · (intro w hSw; (try dsimp only at hSw); go_simp; all_goals with_reducible rfl)
  try simp only [Act.put, sA, sB, sC]
  refine tkH 13 ⟨some 19, _, _, _, _, _⟩ ?_ rfl ?_ (by assumption) ?_
  rotate_left
  · (intro w hSw; (try dsimp only at hSw); go_simp; all_goals with_reducible rfl)
  try simp only [Act.put, sA, sB, sC]
  refine tkH 14 ⟨some 20, _, _, _, _, _⟩ ?_ rfl ?_ (by assumption) ?_
  rotate_left
  · (intro w hSw; (try dsimp only at hSw); go_simp; all_goals with_reducible rfl)
  try simp only [Act.put, sA, sB, sC]
  refine wpAnyH_ready (rs := [7]) (by kernel_rfl) (by simp) ?_
  refine AllReadyH.cons rfl (fun K hK => ?_) (AllReadyH.nil)
  go_simp
  refine (oxygenAt_is x.o x.h (x.su + dl) lo _ hga (by omega) (by omega) hlo).mono ?_
  rintro e v1 ⟨rfl, hbv0⟩
  have hT1 : Below u.heap.size u v1 := hT0.trans (hbv0.mono hT0.size)
  replace HNrb := Lib.hid (HNrb.out.below hbv0)
  clear hbv0
  go_wp2_with fail
  refine hK.out _ _ (HS.out _ hT1) (fun hHeld => ?_)
  clear hK K
  try simp only [Act.put, sA, sB, sC]
  refine wpAnyH_ready (rs := [15]) (by kernel_rfl) (by simp) ?_
  refine AllReadyH.cons rfl (fun K hK => ?_) (AllReadyH.nil)
  go_simp
  refine (oxygenAt_is x.o x.h (x.su + dh) hi _ hga (by omega) (by omega) hhi).mono ?_
  rintro e v2 ⟨rfl, hbv1⟩
  have hT2 : Below u.heap.size u v2 := hT1.trans (hbv1.mono hT1.size)
  replace HNrb := Lib.hid (HNrb.out.below hbv1)
  clear hbv1
  go_wp2_with fail
  refine hK.out _ _ (HS.out _ hT2) (fun hHeld => ?_)
  clear hK K
  try simp only [Act.put, sA, sB, sC]
  refine tkH 16 ⟨some 22, _, _, _, _, _⟩ ?_ rfl ?_ (by assumption) ?_
  rotate_left
  · (intro w hSw; (try dsimp only at hSw); go_simp; all_goals with_reducible rfl)
  try simp only [Act.put, sA, sB, sC]
  refine wpAnyH_ready (rs := [17]) (by kernel_rfl) (by simp) ?_
  refine AllReadyH.cons rfl (fun K hK => ?_) (AllReadyH.nil)
  have HBs := Lib.hid (BlkF.st (vs' := [.int .i64 lo, .int .i64 hi]) HNrb.out rfl)
  have hTs := Lib.hid (stW_below (N := w.heap.size) (w := w) HNrb.out.ge [.int .i64 lo, .int .i64 hi] v2 0 (hB0.trans (hT2.mono hB0.size)))
  have hSs : ((v2.setCell ⟨rb, 0, none⟩ (.int .i64 lo)).setCell ⟨rb, 1, none⟩ (.int .i64 hi)).cell? ⟨w.heap.size, 0, none⟩ = some (.int .i64 x.s) ∧ ((v2.setCell ⟨rb, 0, none⟩ (.int .i64 lo)).setCell ⟨rb, 1, none⟩ (.int .i64 hi)).cell? ⟨w.heap.size, 1, none⟩ = some (.int .i64 x.d) ∧ ((v2.setCell ⟨rb, 0, none⟩ (.int .i64 lo)).setCell ⟨rb, 1, none⟩ (.int .i64 hi)).cell? ⟨w.heap.size, 2, none⟩ = some (.int .i64 x.g) ∧ ((v2.setCell ⟨rb, 0, none⟩ (.int .i64 lo)).setCell ⟨rb, 1, none⟩ (.int .i64 hi)).cell? ⟨w.heap.size, 3, none⟩ = some (.int .i64 x.nu) ∧ ((v2.setCell ⟨rb, 0, none⟩ (.int .i64 lo)).setCell ⟨rb, 1, none⟩ (.int .i64 hi)).cell? ⟨w.heap.size, 4, none⟩ = some (.int .i64 x.bs) ∧ ((v2.setCell ⟨rb, 0, none⟩ (.int .i64 lo)).setCell ⟨rb, 1, none⟩ (.int .i64 hi)).cell? ⟨w.heap.size, 5, none⟩ = some (.int .i64 x.bd) ∧ ((v2.setCell ⟨rb, 0, none⟩ (.int .i64 lo)).setCell ⟨rb, 1, none⟩ (.int .i64 hi)).cell? ⟨w.heap.size, 6, none⟩ = some (.int .i64 x.su) ∧ ((v2.setCell ⟨rb, 0, none⟩ (.int .i64 lo)).setCell ⟨rb, 1, none⟩ (.int .i64 hi)).cell? ⟨w.heap.size, 7, none⟩ = some (.int .i64 x.o) ∧ ((v2.setCell ⟨rb, 0, none⟩ (.int .i64 lo)).setCell ⟨rb, 1, none⟩ (.int .i64 hi)).cell? ⟨w.heap.size, 8, none⟩ = some (.int .i64 x.h) ∧ ((v2.setCell ⟨rb, 0, none⟩ (.int .i64 lo)).setCell ⟨rb, 1, none⟩ (.int .i64 hi)).cell? ⟨x1.heap.size, 0, none⟩ = some (.int .i64 dl) ∧ ((v2.setCell ⟨rb, 0, none⟩ (.int .i64 lo)).setCell ⟨rb, 1, none⟩ (.int .i64 hi)).cell? ⟨x1.heap.size, 1, none⟩ = some (.int .i64 dh) := by
    obtain ⟨h0, h1, h2, h3, h4, h5, h6, h7, h8, h9, h10⟩ := hHeld
    exact ⟨(stW_oc (l := [.int .i64 lo, .int .i64 hi]) (i := 0) (show w.heap.size ≠ rb by omega) (0)).trans h0, (stW_oc (l := [.int .i64 lo, .int .i64 hi]) (i := 0) (show w.heap.size ≠ rb by omega) (1)).trans h1, (stW_oc (l := [.int .i64 lo, .int .i64 hi]) (i := 0) (show w.heap.size ≠ rb by omega) (2)).trans h2, (stW_oc (l := [.int .i64 lo, .int .i64 hi]) (i := 0) (show w.heap.size ≠ rb by omega) (3)).trans h3, (stW_oc (l := [.int .i64 lo, .int .i64 hi]) (i := 0) (show w.heap.size ≠ rb by omega) (4)).trans h4, (stW_oc (l := [.int .i64 lo, .int .i64 hi]) (i := 0) (show w.heap.size ≠ rb by omega) (5)).trans h5, (stW_oc (l := [.int .i64 lo, .int .i64 hi]) (i := 0) (show w.heap.size ≠ rb by omega) (6)).trans h6, (stW_oc (l := [.int .i64 lo, .int .i64 hi]) (i := 0) (show w.heap.size ≠ rb by omega) (7)).trans h7, (stW_oc (l := [.int .i64 lo, .int .i64 hi]) (i := 0) (show w.heap.size ≠ rb by omega) (8)).trans h8, (stW_oc (l := [.int .i64 lo, .int .i64 hi]) (i := 0) (show x1.heap.size ≠ rb by omega) (0)).trans h9, (stW_oc (l := [.int .i64 lo, .int .i64 hi]) (i := 0) (show x1.heap.size ≠ rb by omega) (1)).trans h10⟩
  obtain ⟨k0, k1⟩ := b2 HNrb.out
  have kf := HNrb.out.fz
  go_simp
  go_wp2_with fail
  refine hK.out _ _ hSs (fun hHeld => ?_)
  clear hK K kf hSs k0 k1
  try simp only [Act.put, sA, sB, sC]
  refine wpAnyH_done (by kernel_rfl) ?_ _
  refine ex_world (fun vz => BlkF vz w.heap.size rb [.int .i64 lo, .int .i64 hi] ∧ Below w.heap.size w vz) ⟨HBs.out, hTs.out⟩ (fun vz hvz => ?_)
  obtain ⟨HBz, hTz⟩ := hvz
  clear hHeld HS HBs hTs 
  obtain ⟨q0, q1⟩ := b2 HBz
  have hTz2 := Lib.hid hTz
  clear HBz hTz
  go_wp2
  refine bodyPost_ret (v := .agg #[.int .i64 lo, .int .i64 hi]) (by simp [results, Tryz.results71, go_sem, *]) rfl ⟨rfl, hTz2.out⟩
end Go.Proofs.YtijdphlejokijaaGreat
