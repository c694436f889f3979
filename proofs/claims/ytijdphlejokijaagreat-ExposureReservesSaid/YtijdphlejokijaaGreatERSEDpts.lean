import Derived.Test.YtijdphlejokijaaGreatERSEDeep
import Derived.Outline
namespace Go.Proofs.YtijdphlejokijaaGreat
open Go.ChangeShapes Go.WideShapes Go.ChangeAt Go.RowKit
set_option linter.unusedVariables false
set_option linter.unusedSimpArgs false
attribute [local go_sem ↓] Go.wp_at_zero Go.wp_at_succ
theorem BlkF.base0 {u : World} {B b : Nat} {vs : List Value} (h : BlkF u B b vs) : BlkF u 0 b vs := ⟨Nat.zero_le _, h.lt, h.at', h.fz⟩
def poorP (r : Ru) (o s : Int) (i : Nat) : Bool := !decide (o * (s + i) < 1000 * r.a)
def deepP (r : Ru) (o h s : Int) (i : Nat) : Bool := decide (0 < (kndL r o h s i).length)
theorem poorP_mono (r : Ru) {o s : Int} (o0 : 0 ≤ o) : ∀ i j : Nat, i ≤ j → poorP r o s i = true → poorP r o s j = true := by
  intro i j hij h
  unfold poorP at h ⊢
  simp only [Bool.not_eq_true', decide_eq_false_iff_not, Int.not_lt] at h ⊢
  have : o * (s + i) ≤ o * (s + j) := Int.mul_le_mul_of_nonneg_left (by omega) o0
  omega
theorem knd_pos (r : Ru) (o h s d : Int) : 0 < (kndL r o h s d).length ↔ (1000 * r.b < o * (s + d) ∨ r.nc < narV h s d ∨ r.dn < denV o h s d) := by
  unfold kndL
  by_cases h1 : 1000 * r.b < o * (s + d) <;> by_cases h2 : r.nc < narV h s d <;> by_cases h3 : r.dn < denV o h s d <;> simp [h1, h2, h3]
theorem narV_mono {h s d d' : Int} (h0 : h ≤ 1000) (hd : d ≤ d') : narV h s d ≤ narV h s d' := by
  unfold narV
  have h1 : (1000 - h) * (s + d) ≤ (1000 - h) * (s + d') := Int.mul_le_mul_of_nonneg_left (by omega) (by omega)
  have h2 : ((1000 - h) * (s + d) + 1000 - 1) / 1000 ≤ ((1000 - h) * (s + d') + 1000 - 1) / 1000 := Int.ediv_le_ediv (by decide) (by omega)
  unfold above
  split <;> split <;> omega
theorem denV_mono {o h s d d' : Int} (k1 : 0 ≤ o) (k2 : o ≤ 1000) (k3 : 0 ≤ h) (k4 : h ≤ 1000) (k7 : o + h ≤ 1000) (hd : d ≤ d') : denV o h s d ≤ denV o h s d' := by
  unfold denV
  have hw := (wgt_bd k1 k2 k3 k4 k7).1
  have h1 : wgt o h * (s + d) ≤ wgt o h * (s + d') := Int.mul_le_mul_of_nonneg_left (by omega) hw
  exact Int.ediv_le_ediv (by decide) (by omega)
theorem deepP_mono (r : Ru) {o h s : Int} (k1 : 0 ≤ o) (k2 : o ≤ 1000) (k3 : 0 ≤ h) (k4 : h ≤ 1000) (k7 : o + h ≤ 1000) : ∀ i j : Nat, i ≤ j → deepP r o h s i = true → deepP r o h s j = true := by
  intro i j hij hh
  unfold deepP at hh ⊢
  rw [decide_eq_true_eq] at hh ⊢
  rw [knd_pos] at hh ⊢
  have a1 : o * (s + i) ≤ o * (s + j) := Int.mul_le_mul_of_nonneg_left (by omega) k1
  have a2 := narV_mono (s := s) (show h ≤ 1000 by omega) (show (i : Int) ≤ j by omega)
  have a3 := denV_mono (s := s) k1 k2 k3 k4 k7 (show (i : Int) ≤ j by omega)
  omega
/-- The least and the greatest depth, and the error. -/
def dptP (r : Ru) (o h s : Int) : Int × Int × Int := if dpt (deepP r o h s) 30001 ≤ dpt (poorP r o s) 30001 then (0, 0, 12) else ((dpt (poorP r o s) 30001 : Int), (dpt (deepP r o h s) 30001 : Int) - 1, 0)
theorem CGb (o h E : Int) (w : World) (hE : Hid (gasE o h = E)) : Calls Tryz.prog 47 #[.agg #[.int .i64 o, .int .i64 h]] w fun e w' => e = .returned (.int .i64 E) ∧ Below w.heap.size w w' := (CheckGas_any o h w).mono fun e w' h => ⟨by rw [h.1, hE.out], by rw [← h.2]; exact (Below.refl _ _).alloc (Nat.le_refl _) _⟩
theorem cSurfB (n E : Int) (w : World) (h : Hid (rngE n 400 1100 = E)) : Calls Tryz.prog 48 #[.int .i64 n] w fun e w' => e = .returned (.int .i64 E) ∧ Below w.heap.size w w' := by
  go_enter Tryz.func48, Tryz.ntmps48
  go_wp2_with fail
  refine (cRange_is n 400 1100 E _ h).mono ?_
  rintro e w' ⟨rfl, rfl⟩
  go_wp2
  go_ret
  exact ⟨rfl, Below.refl _ _⟩
theorem cFirst3B (x y z E : Int) (b : Nat) (w : World) {B : Nat} (hE : Hid (firE [x, y, z] = E)) (h : BlkF w B b [.int .i64 x, .int .i64 y, .int .i64 z]) : Calls Tryz.prog 31 #[.slice (some ⟨b, 0, none⟩) 3 3] w fun e w' => e = .returned (.int .i64 E) ∧ Below w.heap.size w w' := by
  rw [← hE.out]
  exact cFirstB [x, y, z] b 0 3 w rfl (by simp) (by simp) (blk_ints (l := [x, y, z]) h)
set_option maxRecDepth 100000 in
set_option maxHeartbeats 4000000 in
theorem DepthsOf_any (o h s : Int) (T : List Ox) (r : Ru) (AT : Option Addr) (tn tc : Nat) (E1 E2 E3 E : Int) (w : World) (htn : Hid (tn = T.length)) (htl : tn ≤ 9223372036854775807) (hT : Hid (SlRows oxV 2 w AT T)) (hE1 : Hid (gasE o h = E1)) (hE2 : Hid (rngE s 400 1100 = E2)) (hE3 : Hid (ruE T r = E3)) (hE : Hid (firE [E1, E2, E3] = E)) :
    Calls Tryz.prog 26 #[.agg #[.int .i64 o, .int .i64 h], .int .i64 s, .agg #[.slice AT tn tc, .int .i64 r.a, .int .i64 r.b, .int .i64 r.nc, .int .i64 r.dn, .int .i64 r.br, .int .i64 r.em, .int .i64 r.pa, .int .i64 r.sc]] w fun e w' =>
      (¬ E = 0 ∧ e = .returned (.tuple #[.agg #[.int .i64 0, .int .i64 0], .int .i64 E]) ∧ Below w.heap.size w w') ∨
      (E = 0 ∧ e = .returned (.tuple #[.agg #[.int .i64 (dptP r o h s).1, .int .i64 (dptP r o h s).2.1], .int .i64 (dptP r o h s).2.2]) ∧ Below w.heap.size w w') := by
  go_enter Tryz.func26, Tryz.ntmps26
  go_upto_region 1 with (fail)
  have A1 := BlkF.made (B := w.heap.size) w [.int .i64 o, .int .i64 h] 66 (Nat.le_refl _)
  have A2 := BlkF.made (B := w.heap.size) (w.alloc (.cells #[.int .i64 o, .int .i64 h] 66)) [.int .i64 s] 3 (by simp)
  have A3 := BlkF.made (B := w.heap.size) ((w.alloc (.cells #[.int .i64 o, .int .i64 h] 66)).alloc (.cells #[.int .i64 s] 3)) [.slice AT tn tc, .int .i64 r.a, .int .i64 r.b, .int .i64 r.nc, .int .i64 r.dn, .int .i64 r.br, .int .i64 r.em, .int .i64 r.pa, .int .i64 r.sc] 30 (by simp; omega)
  have A4 := BlkF.made (B := w.heap.size) (((w.alloc (.cells #[.int .i64 o, .int .i64 h] 66)).alloc (.cells #[.int .i64 s] 3)).alloc (.cells #[.slice AT tn tc, .int .i64 r.a, .int .i64 r.b, .int .i64 r.nc, .int .i64 r.dn, .int .i64 r.br, .int .i64 r.em, .int .i64 r.pa, .int .i64 r.sc] 30)) [.int .i64 0, .int .i64 0] 62 (by simp; omega)
  have b12 : Below (w.alloc (.cells #[.int .i64 o, .int .i64 h] 66)).heap.size (w.alloc (.cells #[.int .i64 o, .int .i64 h] 66)) ((w.alloc (.cells #[.int .i64 o, .int .i64 h] 66)).alloc (.cells #[.int .i64 s] 3)) := (Below.refl _ _).alloc (Nat.le_refl _) _
  have b23 : Below ((w.alloc (.cells #[.int .i64 o, .int .i64 h] 66)).alloc (.cells #[.int .i64 s] 3)).heap.size ((w.alloc (.cells #[.int .i64 o, .int .i64 h] 66)).alloc (.cells #[.int .i64 s] 3)) (((w.alloc (.cells #[.int .i64 o, .int .i64 h] 66)).alloc (.cells #[.int .i64 s] 3)).alloc (.cells #[.slice AT tn tc, .int .i64 r.a, .int .i64 r.b, .int .i64 r.nc, .int .i64 r.dn, .int .i64 r.br, .int .i64 r.em, .int .i64 r.pa, .int .i64 r.sc] 30)) := (Below.refl _ _).alloc (Nat.le_refl _) _
  have b34 : Below (((w.alloc (.cells #[.int .i64 o, .int .i64 h] 66)).alloc (.cells #[.int .i64 s] 3)).alloc (.cells #[.slice AT tn tc, .int .i64 r.a, .int .i64 r.b, .int .i64 r.nc, .int .i64 r.dn, .int .i64 r.br, .int .i64 r.em, .int .i64 r.pa, .int .i64 r.sc] 30)).heap.size (((w.alloc (.cells #[.int .i64 o, .int .i64 h] 66)).alloc (.cells #[.int .i64 s] 3)).alloc (.cells #[.slice AT tn tc, .int .i64 r.a, .int .i64 r.b, .int .i64 r.nc, .int .i64 r.dn, .int .i64 r.br, .int .i64 r.em, .int .i64 r.pa, .int .i64 r.sc] 30)) ((((w.alloc (.cells #[.int .i64 o, .int .i64 h] 66)).alloc (.cells #[.int .i64 s] 3)).alloc (.cells #[.slice AT tn tc, .int .i64 r.a, .int .i64 r.b, .int .i64 r.nc, .int .i64 r.dn, .int .i64 r.br, .int .i64 r.em, .int .i64 r.pa, .int .i64 r.sc] 30)).alloc (.cells #[.int .i64 0, .int .i64 0] 62)) := (Below.refl _ _).alloc (Nat.le_refl _) _
  have A1' := ((A1.below b12).below b23).below b34
  have A2' := (A2.below b23).below b34
  have A3' := A3.below b34
  have hBb : Below w.heap.size w ((((w.alloc (.cells #[.int .i64 o, .int .i64 h] 66)).alloc (.cells #[.int .i64 s] 3)).alloc (.cells #[.slice AT tn tc, .int .i64 r.a, .int .i64 r.b, .int .i64 r.nc, .int .i64 r.dn, .int .i64 r.br, .int .i64 r.em, .int .i64 r.pa, .int .i64 r.sc] 30)).alloc (.cells #[.int .i64 0, .int .i64 0] 62)) := ((((Below.refl _ _).alloc (Nat.le_refl _) _).alloc (by simp) _).alloc (by simp; omega) _).alloc (by simp; omega) _
  simp only [World.size_alloc] at A2' A3' A4
  refine ex_world (fun u => Below w.heap.size w u ∧ BlkF u w.heap.size w.heap.size [.int .i64 o, .int .i64 h] ∧ BlkF u w.heap.size (w.heap.size + 1) [.int .i64 s] ∧ BlkF u w.heap.size (w.heap.size + 1 + 1) [.slice AT tn tc, .int .i64 r.a, .int .i64 r.b, .int .i64 r.nc, .int .i64 r.dn, .int .i64 r.br, .int .i64 r.em, .int .i64 r.pa, .int .i64 r.sc] ∧ BlkF u w.heap.size (w.heap.size + 1 + 1 + 1) [.int .i64 0, .int .i64 0]) ⟨hBb, A1', A2', A3', A4⟩ (fun u hu => ?_)
  obtain ⟨hB0, Z0, Z1, Z2, Z3⟩ := hu
  clear A1 A2 A3 A4 b12 b23 b34 A1' A2' A3' hBb
  obtain ⟨e0, e1⟩ := b2 Z0
  have e2 := b1 Z1
  obtain ⟨f0, f1, f2, f3, f4, f5, f6, f7, f8⟩ := b9 Z2
  have l0 := Z0.lt
  have l1 := Z1.lt
  have l2 := Z2.lt
  have HTT : Hid (∀ y, Below u.heap.size u y → SlRows oxV 2 y AT T) := Lib.hid fun y hy => hT.out.below (hB0.trans (hy.mono hB0.size))
  have HS : Hid (∀ y, Below u.heap.size u y → y.cell? ⟨w.heap.size, 0, none⟩ = some (.int .i64 o) ∧ y.cell? ⟨w.heap.size, 1, none⟩ = some (.int .i64 h) ∧ y.cell? ⟨w.heap.size + 1, 0, none⟩ = some (.int .i64 s) ∧ y.cell? ⟨w.heap.size + 1 + 1, 0, none⟩ = some (.slice AT tn tc) ∧ y.cell? ⟨w.heap.size + 1 + 1, 1, none⟩ = some (.int .i64 r.a) ∧ y.cell? ⟨w.heap.size + 1 + 1, 2, none⟩ = some (.int .i64 r.b) ∧ y.cell? ⟨w.heap.size + 1 + 1, 3, none⟩ = some (.int .i64 r.nc) ∧ y.cell? ⟨w.heap.size + 1 + 1, 4, none⟩ = some (.int .i64 r.dn) ∧ y.cell? ⟨w.heap.size + 1 + 1, 5, none⟩ = some (.int .i64 r.br) ∧ y.cell? ⟨w.heap.size + 1 + 1, 6, none⟩ = some (.int .i64 r.em) ∧ y.cell? ⟨w.heap.size + 1 + 1, 7, none⟩ = some (.int .i64 r.pa) ∧ y.cell? ⟨w.heap.size + 1 + 1, 8, none⟩ = some (.int .i64 r.sc)) := Lib.hid fun y hy => ⟨(hy.cell (p := ⟨w.heap.size, 0, none⟩) l0).trans e0, (hy.cell (p := ⟨w.heap.size, 1, none⟩) l0).trans e1, (hy.cell (p := ⟨w.heap.size + 1, 0, none⟩) l1).trans e2, (hy.cell (p := ⟨w.heap.size + 1 + 1, 0, none⟩) l2).trans f0, (hy.cell (p := ⟨w.heap.size + 1 + 1, 1, none⟩) l2).trans f1, (hy.cell (p := ⟨w.heap.size + 1 + 1, 2, none⟩) l2).trans f2, (hy.cell (p := ⟨w.heap.size + 1 + 1, 3, none⟩) l2).trans f3, (hy.cell (p := ⟨w.heap.size + 1 + 1, 4, none⟩) l2).trans f4, (hy.cell (p := ⟨w.heap.size + 1 + 1, 5, none⟩) l2).trans f5, (hy.cell (p := ⟨w.heap.size + 1 + 1, 6, none⟩) l2).trans f6, (hy.cell (p := ⟨w.heap.size + 1 + 1, 7, none⟩) l2).trans f7, (hy.cell (p := ⟨w.heap.size + 1 + 1, 8, none⟩) l2).trans f8⟩
  clear e0 e1 e2 f0 f1 f2 f3 f4 f5 f6 f7 f8 l0 l1 l2
  refine wp_region_held_drew (S := (fun w' => w'.cell? ⟨w.heap.size, 0, none⟩ = some (.int .i64 o) ∧ w'.cell? ⟨w.heap.size, 1, none⟩ = some (.int .i64 h) ∧ w'.cell? ⟨w.heap.size + 1, 0, none⟩ = some (.int .i64 s) ∧ w'.cell? ⟨w.heap.size + 1 + 1, 0, none⟩ = some (.slice AT tn tc) ∧ w'.cell? ⟨w.heap.size + 1 + 1, 1, none⟩ = some (.int .i64 r.a) ∧ w'.cell? ⟨w.heap.size + 1 + 1, 2, none⟩ = some (.int .i64 r.b) ∧ w'.cell? ⟨w.heap.size + 1 + 1, 3, none⟩ = some (.int .i64 r.nc) ∧ w'.cell? ⟨w.heap.size + 1 + 1, 4, none⟩ = some (.int .i64 r.dn) ∧ w'.cell? ⟨w.heap.size + 1 + 1, 5, none⟩ = some (.int .i64 r.br) ∧ w'.cell? ⟨w.heap.size + 1 + 1, 6, none⟩ = some (.int .i64 r.em) ∧ w'.cell? ⟨w.heap.size + 1 + 1, 7, none⟩ = some (.int .i64 r.pa) ∧ w'.cell? ⟨w.heap.size + 1 + 1, 8, none⟩ = some (.int .i64 r.sc))) (by kernel_rfl) (HS.out _ (Below.refl _ _).drew) (fun hHeld => ?_)
  have hT0 : Below u.heap.size u u.drew := (Below.refl _ _).drew
  generalize hdr : u.drew = v0 at *
  clear hdr
  refine tkH 0 ⟨some 11, _, _, _, _, _⟩ ?_ rfl ?_ (by assumption) ?_
  rotate_left
  · (intro w hSw; (try dsimp only at hSw); go_simp; all_goals with_reducible rfl)
  try simp only [Act.put, sA, sB, sC]
  refine tkH 2 ⟨some 13, _, _, _, _, _⟩ ?_ rfl ?_ (by assumption) ?_
  rotate_left
  · (intro w hSw; (try dsimp only at hSw); go_simp; all_goals with_reducible rfl)
  try simp only [Act.put, sA, sB, sC]
  refine tkH 4 ⟨some 15, _, _, _, _, _⟩ ?_ rfl ?_ (by assumption) ?_
  rotate_left
  · (intro w hSw; (try dsimp only at hSw); go_simp; all_goals with_reducible rfl)
  try simp only [Act.put, sA, sB, sC]
  refine wpAnyH_ready (rs := [1]) (by kernel_rfl) (by simp) ?_
  refine AllReadyH.cons rfl (fun K hK => ?_) (AllReadyH.nil)
  go_simp
  refine (CGb o h E1 _ hE1).mono ?_
  rintro e v1 ⟨rfl, hbv0⟩
  have hT1 : Below u.heap.size u v1 := hT0.trans (hbv0.mono hT0.size)
  clear hbv0
  go_wp2_with fail
  refine hK.out _ _ (HS.out _ hT1) (fun hHeld => ?_)
  clear hK K
  try simp only [Act.put, sA, sB, sC]
  refine wpAnyH_ready (rs := [3]) (by kernel_rfl) (by simp) ?_
  refine AllReadyH.cons rfl (fun K hK => ?_) (AllReadyH.nil)
  go_simp
  refine (cSurfB s E2 _ hE2).mono ?_
  rintro e v2 ⟨rfl, hbv1⟩
  have hT2 : Below u.heap.size u v2 := hT1.trans (hbv1.mono hT1.size)
  clear hbv1
  go_wp2_with fail
  refine hK.out _ _ (HS.out _ hT2) (fun hHeld => ?_)
  clear hK K
  try simp only [Act.put, sA, sB, sC]
  refine wpAnyH_ready (rs := [5]) (by kernel_rfl) (by simp) ?_
  refine AllReadyH.cons rfl (fun K hK => ?_) (AllReadyH.nil)
  go_simp
  refine (CheckRules_any T r AT tn tc E3 _ htn htl (HTT.out _ hT2) hE3).mono ?_
  rintro e v3 ⟨rfl, hbv2⟩
  have hT3 : Below u.heap.size u v3 := hT2.trans (hbv2.mono hT2.size)
  clear hbv2
  go_wp2_with fail
  refine hK.out _ _ (HS.out _ hT3) (fun hHeld => ?_)
  clear hK K
  try simp only [Act.put, sA, sB, sC]
  refine wpAnyH_ready (rs := [6]) (by kernel_rfl) (by simp) ?_
  refine AllReadyH.cons rfl (fun K hK => ?_) (AllReadyH.nil)
  go_simp
  go_wp2_with fail
  refine hK.out _ _ (HS.out _ (hT3.alloc hT3.size _)) (fun hHeld => ?_)
  clear hK K
  try simp only [Act.put, sA, sB, sC]
  have HNb6 := Lib.hid (BlkF.made (B := u.heap.size) v3 [.int .i64 E1, .int .i64 E2, .int .i64 E3] 35 hT3.size)
  have hbv3 : Below v3.heap.size v3 (v3.alloc (.cells #[.int .i64 E1, .int .i64 E2, .int .i64 E3] 35)) := (Below.refl _ _).alloc (Nat.le_refl _) _
  have hnb6 : u.heap.size ≤ v3.heap.size := hT3.size
  have exb6 : ∃ x, v3.heap.size = x := ⟨_, rfl⟩
  generalize hq3 : v3.alloc (.cells #[.int .i64 E1, .int .i64 E2, .int .i64 E3] 35) = v4 at *
  have hT4 : Below u.heap.size u v4 := hT3.trans (hbv3.mono hT3.size)
  obtain ⟨b6, eb6⟩ := exb6
  rw [eb6] at HNb6 hnb6 ⊢
  clear hbv3 hq3
  refine wpAnyH_ready (rs := [7]) (by kernel_rfl) (by simp) ?_
  refine AllReadyH.cons rfl (fun K hK => ?_) (AllReadyH.nil)
  go_simp
  refine (cFirst3B E1 E2 E3 E b6 _ hE HNb6.out).mono ?_
  rintro e v5 ⟨rfl, hbv4⟩
  have hT5 : Below u.heap.size u v5 := hT4.trans (hbv4.mono hT4.size)
  replace HNb6 := Lib.hid (HNb6.out.below hbv4)
  clear hbv4
  go_wp2_with fail
  refine hK.out _ _ (HS.out _ hT5) (fun hHeld => ?_)
  clear hK K
  try simp only [Act.put, sA, sB, sC]
  refine tkH 8 ⟨some 8, _, _, _, _, _⟩ ?_ rfl ?_ (by assumption) ?_
  rotate_left
  · (intro w hSw; (try dsimp only at hSw); go_simp; all_goals with_reducible rfl)
  try simp only [Act.put, sA, sB, sC]
  refine wpAnyH_done (by kernel_rfl) ?_ _
  obtain ⟨x, rfl⟩ : ∃ z, z = v5 := ⟨_, rfl⟩
  have hT := hT5
  clear hHeld HS HTT HNb6
  replace Z0 := Z0.below hT
  replace Z1 := Z1.below hT
  replace Z2 := Z2.below hT
  replace Z3 := Z3.below hT
  replace hB0 := hB0.trans (hT.mono hB0.size)
  clear hT
  obtain ⟨rb, hrb⟩ : ∃ z, w.heap.size + 1 + 1 + 1 = z := ⟨_, rfl⟩
  rw [hrb] at Z3 ⊢
  obtain ⟨z0, z1⟩ := b2 Z3
  have zl := Z3.lt
  have zf := Z3.fz
  by_cases hEE : ¬ E = 0
  · have hE3 : (E != 0) = true := by simpa using hEE
    have hB := Lib.hid (hB0.setCell (p := ⟨rb, 0, none⟩) (show w.heap.size ≤ rb by omega) (.int .i64 0))
    have hB2 := Lib.hid (hB.out.setCell (p := ⟨rb, 1, none⟩) (show w.heap.size ≤ rb by omega) (.int .i64 0))
    go_wp2
    refine bodyPost_ret (v := .tuple #[.agg #[.int .i64 0, .int .i64 0], .int .i64 E]) (by simp [results, Tryz.results26, go_sem, *]) rfl (Or.inl ⟨hEE, rfl, ?_⟩)
    exact hB2.out
  obtain rfl : E = 0 := by omega
  obtain ⟨rfl, rfl, rfl⟩ : E1 = 0 ∧ E2 = 0 ∧ E3 = 0 := by
    have := firE_all hE.out
    exact ⟨this _ (by simp), this _ (by simp), this _ (by simp)⟩
  have hs := rngE_bd hE2.out
  have hru := ru_ok hE3.out
  have hlm := limE_z hru.lm
  obtain ⟨k1, k2, k3, k4, k7⟩ := gasE_o hE1.out
  obtain ⟨lo, hlo⟩ : ∃ z, Hid (dpt (poorP r o s) 30001 = z) := ⟨_, Lib.hid rfl⟩
  obtain ⟨bh, hbh⟩ : ∃ z, Hid (dpt (deepP r o h s) 30001 = z) := ⟨_, Lib.hid rfl⟩
  have hA := dpt_is (poorP_mono r (s := s) k1) 30001
  have hD := dpt_is (deepP_mono r (s := s) k1 k2 k3 k4 k7) 30001
  rw [hlo.out] at hA
  rw [hbh.out] at hD
  have HS1 : Hid (∀ X, Below x.heap.size x X → Calls Tryz.prog 49 #[.int .i64 30001, .func (.func 50) #[] #[.pointer (some ⟨w.heap.size, 0, none⟩), .pointer (some ⟨w.heap.size + 1, 0, none⟩), .pointer (some ⟨w.heap.size + 1 + 1, 0, none⟩)]] X fun e w' => e = .returned (.int .i64 lo) ∧ Below X.heap.size X w') := Lib.hid fun X hX =>
    searchP 30001 lo w.heap.size (w.heap.size + 1) (w.heap.size + 1 + 1) (poorP r o s) X (by decide) hA.1 (Lib.hid hA.2.1) (Lib.hid hA.2.2) (Lib.hid fun i w' hi hw => poorC_is o h s _ i r AT tn tc _ _ _ _ w' hE1 hs.1 hs.2 (by omega) (Lib.hid rfl) hlm.1 hlm.2.1 (Lib.hid rfl) (Z0.below (hX.trans (hw.mono hX.size))).base0 (Z1.below (hX.trans (hw.mono hX.size))).base0 (Z2.below (hX.trans (hw.mono hX.size))).base0)
  have HS2 : Hid (∀ X, Below x.heap.size x X → Calls Tryz.prog 49 #[.int .i64 30001, .func (.func 52) #[] #[.pointer (some ⟨w.heap.size, 0, none⟩), .pointer (some ⟨w.heap.size + 1, 0, none⟩), .pointer (some ⟨w.heap.size + 1 + 1, 0, none⟩)]] X fun e w' => e = .returned (.int .i64 bh) ∧ Below X.heap.size X w') := Lib.hid fun X hX =>
    searchT 30001 bh w.heap.size (w.heap.size + 1) (w.heap.size + 1 + 1) (deepP r o h s) X (by decide) hD.1 (Lib.hid hD.2.1) (Lib.hid hD.2.2) (Lib.hid fun i w' hi hw => deepC_is o h s i r AT tn tc _ _ _ _ w' hE1 hs.1 hs.2 (by omega) hlm.2.2.1 hlm.2.2.2.1 (Lib.hid rfl) (Z0.below (hX.trans (hw.mono hX.size))).base0 (Z1.below (hX.trans (hw.mono hX.size))).base0 (Z2.below (hX.trans (hw.mono hX.size))).base0)
  have hA1 := hA.1
  have hD1 := hD.1
  clear hA hD Z0 Z1 Z2 hru hE hE1 hE2 hE3
  go_wp2_with fail
  refine (HS1.out x (Below.refl _ _)).mono ?_
  rintro e x2 ⟨rfl, hb2⟩
  go_wp2_with fail
  refine (HS2.out x2 hb2).mono ?_
  rintro e x3 ⟨rfl, hb3⟩
  replace Z3 := Z3.below (hb2.trans (hb3.mono hb2.size))
  replace hB0 := hB0.trans ((hb2.trans (hb3.mono hb2.size)).mono hB0.size)
  clear hb2 hb3 z0 z1 zl zf HS1 HS2
  obtain ⟨z0, z1⟩ := b2 Z3
  have zl := Z3.lt
  have zf := Z3.fz
  have ww : IntKind.i64.wrap ((bh : Int) - 1) = bh - 1 := IntWalk.i64_in _ (by omega)
  by_cases hge : bh ≤ lo
  · have hge2 : (bh : Int) ≤ lo := by omega
    have hB := Lib.hid (hB0.setCell (p := ⟨rb, 0, none⟩) (show w.heap.size ≤ rb by omega) (.int .i64 0))
    have hB2 := Lib.hid (hB.out.setCell (p := ⟨rb, 1, none⟩) (show w.heap.size ≤ rb by omega) (.int .i64 0))
    clear hB hB0
    go_wp2
    refine bodyPost_ret (v := .tuple #[.agg #[.int .i64 0, .int .i64 0], .int .i64 12]) (by simp [results, Tryz.results26, go_sem, *]) rfl ?_
    first | exact Or.inr ⟨rfl, by rw [dptP, hlo.out, hbh.out, if_pos hge], hB2.out⟩ | exact ⟨by rw [dptP, hlo.out, hbh.out, if_pos hge], hB2.out⟩
  · have hge2 : ¬ (bh : Int) ≤ lo := by omega
    have hge3 : (lo : Int) < bh := by omega
    have hB := Lib.hid (hB0.setCell (p := ⟨rb, 0, none⟩) (show w.heap.size ≤ rb by omega) (.int .i64 lo))
    have hB2 := Lib.hid (hB.out.setCell (p := ⟨rb, 1, none⟩) (show w.heap.size ≤ rb by omega) (.int .i64 ((bh : Int) - 1)))
    clear hB hB0
    go_wp2
    refine bodyPost_ret (v := .tuple #[.agg #[.int .i64 lo, .int .i64 ((bh : Int) - 1)], .int .i64 0]) (by simp [results, Tryz.results26, go_sem, *]) rfl ?_
    first | exact Or.inr ⟨rfl, by rw [dptP, hlo.out, hbh.out, if_neg hge], hB2.out⟩ | exact ⟨by rw [dptP, hlo.out, hbh.out, if_neg hge], hB2.out⟩
end Go.Proofs.YtijdphlejokijaaGreat
