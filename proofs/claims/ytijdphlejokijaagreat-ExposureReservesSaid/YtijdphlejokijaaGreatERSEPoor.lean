import Derived.Test.YtijdphlejokijaaGreatERSEClkOf
import Derived.Test.YtijdphlejokijaaGreatERSERule
import Derived.OrdersHeld
import Derived.Deep.RegionHeld
import Derived.Deep.CutRange
import Derived.Deep.CutBlock
import Derived.Outline
namespace Go.Proofs.YtijdphlejokijaaGreat
open Go.ChangeShapes Go.WideShapes Go.ChangeAt Go.RowKit
set_option linter.unusedVariables false
set_option linter.unusedSimpArgs false
attribute [local go_sem ↓] Go.wp_at_zero Go.wp_at_succ
/-- How many numbers below N are not yet right. -/
def dpt (p : Nat → Bool) : Nat → Nat
  | 0 => 0
  | n + 1 => dpt p n + if p n = true then 0 else 1
theorem dpt_is {p : Nat → Bool} (hm : ∀ i j, i ≤ j → p i = true → p j = true) : ∀ N, dpt p N ≤ N ∧ (∀ i, i < dpt p N → p i = false) ∧ (∀ i, dpt p N ≤ i → i < N → p i = true)
  | 0 => ⟨Nat.le_refl _, fun i h => absurd h (Nat.not_lt_zero _), fun i _ h => absurd h (Nat.not_lt_zero _)⟩
  | n + 1 => by
    obtain ⟨h1, h2, h3⟩ := dpt_is hm n
    unfold dpt
    by_cases e : p n = true
    · rw [if_pos e]
      refine ⟨by omega, fun i hi => h2 i hi, fun i hi hn => ?_⟩
      by_cases hin : i < n
      · exact h3 i hi hin
      · obtain rfl : i = n := by omega
        exact e
    · rw [if_neg e]
      have hf : ∀ i, i ≤ n → p i = false := fun i hi => by
        cases hp : p i with
        | false => rfl
        | true => exact absurd (hm i n hi hp) e
      have hn : dpt p n = n := by
        by_cases hlt : dpt p n < n
        · have := h3 _ (Nat.le_refl _) hlt; rw [hf _ (by omega)] at this; cases this
        · omega
      exact ⟨by omega, fun i hi => hf i (by omega), fun i hi hi2 => by omega⟩
set_option maxRecDepth 100000 in
set_option maxHeartbeats 2000000 in
theorem isPoor_is (o h p q : Int) (r : Ru) (AT : Option Addr) (tn tc : Nat) (x : Bool) (w : World) (hg : Hid (gasE o h = 0)) (p0 : 0 ≤ p) (p1 : p ≤ 100000) (hq : Hid (o * p = q)) (a0 : 1 ≤ r.a) (a1 : r.a ≤ 4000) (hx : Hid (decide (q < 1000 * r.a) = x)) :
    Calls Tryz.prog 51 #[.agg #[.int .i64 o, .int .i64 h], .int .i64 p, .agg #[.slice AT tn tc, .int .i64 r.a, .int .i64 r.b, .int .i64 r.nc, .int .i64 r.dn, .int .i64 r.br, .int .i64 r.em, .int .i64 r.pa, .int .i64 r.sc]] w fun e w' => e = .returned (.bool x) ∧ Below w.heap.size w w' := by
  have ww : IntKind.i64.wrap (1000 * r.a) = 1000 * r.a := IntWalk.i64_in _ (by omega)
  go_enter Tryz.func51, Tryz.ntmps51
  go_upto_region 1 with (fail)
  refine ex_world (fun u => Below w.heap.size w u ∧ BlkF u w.heap.size w.heap.size [.int .i64 o, .int .i64 h] ∧ BlkF u w.heap.size (w.heap.size + 1) [.slice AT tn tc, .int .i64 r.a, .int .i64 r.b, .int .i64 r.nc, .int .i64 r.dn, .int .i64 r.br, .int .i64 r.em, .int .i64 r.pa, .int .i64 r.sc]) ⟨((Below.refl _ _).alloc (Nat.le_refl _) _).alloc (by simp) _, (BlkF.made (B := w.heap.size) w [.int .i64 o, .int .i64 h] 66 (Nat.le_refl _)).below ((Below.refl _ _).alloc (Nat.le_refl _) _), by have := BlkF.made (B := w.heap.size) (w.alloc (.cells #[.int .i64 o, .int .i64 h] 66)) [.slice AT tn tc, .int .i64 r.a, .int .i64 r.b, .int .i64 r.nc, .int .i64 r.dn, .int .i64 r.br, .int .i64 r.em, .int .i64 r.pa, .int .i64 r.sc] 30 (by simp); simpa using this⟩ (fun u hu => ?_)
  obtain ⟨hB0, Z0, Z1⟩ := hu
  obtain ⟨e0, e1⟩ := b2 Z0
  have e2 := (b9 Z1).2.1
  have l0 := Z0.lt
  have l1 := Z1.lt
  have HS : Hid (∀ y, Below u.heap.size u y → y.cell? ⟨w.heap.size, 0, none⟩ = some (.int .i64 o) ∧ y.cell? ⟨w.heap.size, 1, none⟩ = some (.int .i64 h) ∧ y.cell? ⟨w.heap.size + 1, 1, none⟩ = some (.int .i64 r.a)) := Lib.hid fun y hy => ⟨(hy.cell (p := ⟨w.heap.size, 0, none⟩) l0).trans e0, (hy.cell (p := ⟨w.heap.size, 1, none⟩) l0).trans e1, (hy.cell (p := ⟨w.heap.size + 1, 1, none⟩) l1).trans e2⟩
  clear e0 e1 e2 Z0 Z1
  refine wp_region_held_drew (S := (fun w' => w'.cell? ⟨w.heap.size, 0, none⟩ = some (.int .i64 o) ∧ w'.cell? ⟨w.heap.size, 1, none⟩ = some (.int .i64 h) ∧ w'.cell? ⟨w.heap.size + 1, 1, none⟩ = some (.int .i64 r.a))) (by kernel_rfl) (HS.out _ (Below.refl _ _).drew) (fun hHeld => ?_)
  have hT0 : Below u.heap.size u u.drew := (Below.refl _ _).drew
  generalize hdr : u.drew = v0 at *
  clear hdr
  refine tkH 0 ⟨some 7, _, _, _, _, _⟩ ?_ rfl ?_ (by assumption) ?_
  rotate_left
  · (intro w hSw; (try dsimp only at hSw); go_simp; all_goals with_reducible rfl)
  try simp only [Act.put, sA, sB, sC]
  refine tkH 1 ⟨some 8, _, _, _, _, _⟩ ?_ rfl ?_ (by assumption) ?_
  rotate_left
  · (intro w hSw; (try dsimp only at hSw); go_simp; all_goals with_reducible rfl)
  try simp only [Act.put, sA, sB, sC]
  refine tkH 3 ⟨some 10, _, _, _, _, _⟩ ?_ rfl ?_ (by assumption) ?_
  rotate_left
  · (intro w hSw; (try dsimp only at hSw); go_simp; all_goals with_reducible rfl)
  try simp only [Act.put, sA, sB, sC]
  refine tkH 4 ⟨some 11, _, _, _, _, _⟩ ?_ rfl ?_ (by assumption) ?_
  rotate_left
  · (intro w hSw; (try dsimp only at hSw); go_simp; all_goals with_reducible rfl)
  try simp only [Act.put, sA, sB, sC]
  refine tkH 5 ⟨some 12, _, _, _, _, _⟩ ?_ rfl ?_ (by assumption) ?_
  rotate_left
  · (intro w hSw; (try dsimp only at hSw); go_simp; all_goals with_reducible rfl)
  try simp only [Act.put, sA, sB, sC]
  refine tkH 6 ⟨some 13, _, _, _, _, _⟩ ?_ rfl ?_ (by assumption) ?_
  rotate_left
  · (intro w hSw; (try dsimp only at hSw); go_simp; all_goals with_reducible rfl)
  try simp only [Act.put, sA, sB, sC]
  refine wpAnyH_ready (rs := [2]) (by kernel_rfl) (by simp) ?_
  refine AllReadyH.cons rfl (fun K hK => ?_) (AllReadyH.nil)
  go_simp
  refine (oxygenAt_is o h p q _ hg p0 p1 hq).mono ?_
  rintro e v1 ⟨rfl, hbv0⟩
  have hT1 : Below u.heap.size u v1 := hT0.trans (hbv0.mono hT0.size)
  clear hbv0
  go_wp2_with fail
  refine hK.out _ _ (HS.out _ hT1) (fun hHeld => ?_)
  clear hK K
  try simp only [Act.put, sA, sB, sC]
  refine tkH 7 ⟨some 14, _, _, _, _, _⟩ ?_ rfl ?_ (by assumption) ?_
  rotate_left
  · (intro w hSw; (try dsimp only at hSw); go_simp; all_goals with_reducible rfl)
  try simp only [Act.put, sA, sB, sC]
  refine tkH 8 ⟨some 6, _, _, _, _, _⟩ ?_ rfl ?_ (by assumption) ?_
  rotate_left
  · (intro w hSw; (try dsimp only at hSw); go_simp; all_goals with_reducible rfl)
  try simp only [Act.put, sA, sB, sC]
  refine wpAnyH_done (by kernel_rfl) ?_ _
  have hTz := Lib.hid (hB0.trans (hT1.mono hB0.size))
  clear HS hHeld
  go_wp2
  go_ret
  exact ⟨ret_bool hx.out, hTz.out⟩
theorem b1' {u : World} {B b : Nat} {v : Value} (h : BlkF u B b [v]) : u.cell? ⟨b, 0, none⟩ = some v := b1 h
theorem b2' {u : World} {B b : Nat} {v0 v1 : Value} (h : BlkF u B b [v0, v1]) : u.cell? ⟨b, 0, none⟩ = some v0 ∧ u.cell? ⟨b, 1, none⟩ = some v1 := b2 h
set_option maxRecDepth 100000 in
theorem poorC_is (o h s q : Int) (i : Nat) (r : Ru) (AT : Option Addr) (tn tc b1 b2 b3 : Nat) (x : Bool) (w : World) (hg : Hid (gasE o h = 0)) (s0 : 400 ≤ s) (s1 : s ≤ 1100) (hi : i ≤ 30000) (hq : Hid (o * (s + i) = q)) (a0 : 1 ≤ r.a) (a1 : r.a ≤ 4000) (hx : Hid ((!decide (q < 1000 * r.a)) = x))
    (h1 : BlkF w 0 b1 [.int .i64 o, .int .i64 h]) (h2 : BlkF w 0 b2 [.int .i64 s]) (h3 : BlkF w 0 b3 [.slice AT tn tc, .int .i64 r.a, .int .i64 r.b, .int .i64 r.nc, .int .i64 r.dn, .int .i64 r.br, .int .i64 r.em, .int .i64 r.pa, .int .i64 r.sc]) :
    Calls Tryz.prog 50 #[.int .i64 i, .pointer (some ⟨b1, 0, none⟩), .pointer (some ⟨b2, 0, none⟩), .pointer (some ⟨b3, 0, none⟩)] w fun e w' => e = .returned (.bool x) ∧ Below w.heap.size w w' := by
  have ww : IntKind.i64.wrap (s + (i : Int)) = s + i := IntWalk.i64_in _ (by omega)
  obtain ⟨y, hy⟩ : ∃ y, Hid (decide (q < 1000 * r.a) = y) := ⟨_, Lib.hid rfl⟩
  rw [hy.out] at hx
  obtain ⟨c0, c1⟩ := b2' h1
  have c2 := b1' h2
  obtain ⟨r0, r1, r2, r3, r4, r5, r6, r7, r8⟩ := b9 h3
  go_enter Tryz.func50, Tryz.ntmps50
  go_wp2_with fail
  refine (isPoor_is o h (s + i) q r AT tn tc y _ hg (by omega) (by omega) hq a0 a1 hy).mono ?_
  rintro e x1 ⟨rfl, hb1⟩
  go_wp2
  go_ret
  exact ⟨ret_bool hx.out, hb1⟩
set_option maxHeartbeats 1000000 in
set_option maxRecDepth 100000 in
theorem searchP (N t b1 b2 b3 : Nat) (p : Nat → Bool) (w : World) (hN : N ≤ 1000000000) (ht : t ≤ N) (hlo : Hid (∀ i, i < t → p i = false)) (hhi : Hid (∀ i, t ≤ i → i < N → p i = true))
    (hcall : Hid (∀ i w', i < N → Below w.heap.size w w' → Calls Tryz.prog 50 #[.int .i64 i, .pointer (some ⟨b1, 0, none⟩), .pointer (some ⟨b2, 0, none⟩), .pointer (some ⟨b3, 0, none⟩)] w' fun e w'' => e = .returned (.bool (p i)) ∧ Below w'.heap.size w' w'')) :
    Calls Tryz.prog 49 #[.int .i64 N, .func (.func 50) #[] #[.pointer (some ⟨b1, 0, none⟩), .pointer (some ⟨b2, 0, none⟩), .pointer (some ⟨b3, 0, none⟩)]] w fun e w' => e = .returned (.int .i64 t) ∧ Below w.heap.size w w' := by
  go_enter Tryz.func49, Tryz.ntmps49
  go_wp2
  go_loopw [5, 6] (fun x y wr => ∃ (i j : Nat), x = .int .i64 i ∧ y = .int .i64 j ∧ i ≤ t ∧ t ≤ j ∧ j ≤ N ∧ Below w.heap.size w wr) (fun x y _ => ((intOf y) - (intOf x)).toNat)
  case atStart => exact ⟨0, N, rfl, rfl, by omega, ht, by omega, (by (repeat (first | (with_reducible refine Below.drew ?_) | (with_reducible refine below_drewN ?_ _) | (with_reducible refine Below.alloc ?_ (by first | omega | (simp; done) | (simp; omega) | (simp at *; omega)) _) | (with_reducible refine Below.setCell ?_ (by first | omega | (simp; done) | (simp; omega) | (simp at *; omega)) _) | (with_reducible exact Below.refl _ _) | (with_reducible assumption) | (with_reducible refine Below.trans ?_ (Below.mono (by assumption) (by first | omega | (simp; done) | (simp; omega) | (simp at *; omega)))))))⟩
  case round =>
    obtain ⟨i, j, rfl, rfl, hi, hj, hjN, hB⟩ := hrel
    have hsz := hB.size
    by_cases hlt : i < j
    · obtain ⟨h, hh⟩ : ∃ h : Nat, Hid ((i + j) / 2 = h) := ⟨_, rfl⟩
      have h1 : i ≤ h ∧ h < j := by rw [← hh.out]; omega
      obtain ⟨h2, h3⟩ := h1
      have e1 : IntKind.i64.wrap ((i : Int) + j) = (i : Int) + j := IntWalk.i64_in _ (by omega)
      have e5 : IntKind.i64.wrap ((h : Int) + 1) = (h : Int) + 1 := IntWalk.i64_in _ (by omega)
      have e6 : IntKind.i64.wrap (h : Int) = h := IntWalk.i64_in _ (by omega)
      have d1 : ((i : Int) + j) / 2 = h := by rw [← hh.out]; omega
      have hlt' : (i : Int) < j := by omega
      cases hp : p h with
      | true =>
        have hC2 : Hid (∀ w', Below w.heap.size w w' → Calls Tryz.prog 50 #[.int .i64 h, .pointer (some ⟨b1, 0, none⟩), .pointer (some ⟨b2, 0, none⟩), .pointer (some ⟨b3, 0, none⟩)] w' fun e w'' => e = .returned (.bool true) ∧ Below w'.heap.size w' w'') := Lib.hid fun w' hw => by have := hcall.out h w' (by omega) hw; rw [hp] at this; exact this
        have ht2 : t ≤ h := by
          rcases Nat.lt_or_ge h t with q | q
          · have := hlo.out h q; rw [hp] at this; cases this
          · exact q
        clear hh hp
        go_wp2_with fail
        refine (hC2.out _ (by (repeat (first | (with_reducible refine Below.drew ?_) | (with_reducible refine below_drewN ?_ _) | (with_reducible refine Below.alloc ?_ (by first | omega | (simp; done) | (simp; omega) | (simp at *; omega)) _) | (with_reducible refine Below.setCell ?_ (by first | omega | (simp; done) | (simp; omega) | (simp at *; omega)) _) | (with_reducible exact Below.refl _ _) | (with_reducible assumption) | (with_reducible refine Below.trans ?_ (Below.mono (by assumption) (by first | omega | (simp; done) | (simp; omega) | (simp at *; omega)))))))).mono ?_
        rintro e x1 ⟨rfl, hb1⟩
        have hB1 : Below w.heap.size w x1 := (by (repeat (first | (with_reducible refine Below.drew ?_) | (with_reducible refine below_drewN ?_ _) | (with_reducible refine Below.alloc ?_ (by first | omega | (simp; done) | (simp; omega) | (simp at *; omega)) _) | (with_reducible refine Below.setCell ?_ (by first | omega | (simp; done) | (simp; omega) | (simp at *; omega)) _) | (with_reducible exact Below.refl _ _) | (with_reducible assumption) | (with_reducible refine Below.trans ?_ (Below.mono (by assumption) (by first | omega | (simp; done) | (simp; omega) | (simp at *; omega)))))))
        clear hb1
        go_wp2
        go_roundw
        case rel => exact ⟨i, h, rfl, rfl, hi, ht2, by omega, hB1⟩
        case measure => (simp [intOf]) <;> omega
      | false =>
        have hC2 : Hid (∀ w', Below w.heap.size w w' → Calls Tryz.prog 50 #[.int .i64 h, .pointer (some ⟨b1, 0, none⟩), .pointer (some ⟨b2, 0, none⟩), .pointer (some ⟨b3, 0, none⟩)] w' fun e w'' => e = .returned (.bool false) ∧ Below w'.heap.size w' w'') := Lib.hid fun w' hw => by have := hcall.out h w' (by omega) hw; rw [hp] at this; exact this
        have ht2 : h < t := by
          rcases Nat.lt_or_ge h t with q | q
          · exact q
          · have := hhi.out h q (by omega); rw [hp] at this; cases this
        clear hh hp
        go_wp2_with fail
        refine (hC2.out _ (by (repeat (first | (with_reducible refine Below.drew ?_) | (with_reducible refine below_drewN ?_ _) | (with_reducible refine Below.alloc ?_ (by first | omega | (simp; done) | (simp; omega) | (simp at *; omega)) _) | (with_reducible refine Below.setCell ?_ (by first | omega | (simp; done) | (simp; omega) | (simp at *; omega)) _) | (with_reducible exact Below.refl _ _) | (with_reducible assumption) | (with_reducible refine Below.trans ?_ (Below.mono (by assumption) (by first | omega | (simp; done) | (simp; omega) | (simp at *; omega)))))))).mono ?_
        rintro e x1 ⟨rfl, hb1⟩
        have hB1 : Below w.heap.size w x1 := (by (repeat (first | (with_reducible refine Below.drew ?_) | (with_reducible refine below_drewN ?_ _) | (with_reducible refine Below.alloc ?_ (by first | omega | (simp; done) | (simp; omega) | (simp at *; omega)) _) | (with_reducible refine Below.setCell ?_ (by first | omega | (simp; done) | (simp; omega) | (simp at *; omega)) _) | (with_reducible exact Below.refl _ _) | (with_reducible assumption) | (with_reducible refine Below.trans ?_ (Below.mono (by assumption) (by first | omega | (simp; done) | (simp; omega) | (simp at *; omega)))))))
        clear hb1
        go_wp2
        go_roundw
        case rel => exact ⟨h + 1, j, by go_num, rfl, ht2, hj, hjN, hB1⟩
        case measure => (simp [intOf]) <;> omega
    · have hk : i = t ∧ j = t := by omega
      obtain ⟨rfl, rfl⟩ := hk
      go_wp2
      go_ret
      exact ⟨rfl, hB⟩
set_option maxHeartbeats 1000000 in
set_option maxRecDepth 100000 in
theorem searchT (N t b1 b2 b3 : Nat) (p : Nat → Bool) (w : World) (hN : N ≤ 1000000000) (ht : t ≤ N) (hlo : Hid (∀ i, i < t → p i = false)) (hhi : Hid (∀ i, t ≤ i → i < N → p i = true))
    (hcall : Hid (∀ i w', i < N → Below w.heap.size w w' → Calls Tryz.prog 52 #[.int .i64 i, .pointer (some ⟨b1, 0, none⟩), .pointer (some ⟨b2, 0, none⟩), .pointer (some ⟨b3, 0, none⟩)] w' fun e w'' => e = .returned (.bool (p i)) ∧ Below w'.heap.size w' w'')) :
    Calls Tryz.prog 49 #[.int .i64 N, .func (.func 52) #[] #[.pointer (some ⟨b1, 0, none⟩), .pointer (some ⟨b2, 0, none⟩), .pointer (some ⟨b3, 0, none⟩)]] w fun e w' => e = .returned (.int .i64 t) ∧ Below w.heap.size w w' := by
  go_enter Tryz.func49, Tryz.ntmps49
  go_wp2
  go_loopw [5, 6] (fun x y wr => ∃ (i j : Nat), x = .int .i64 i ∧ y = .int .i64 j ∧ i ≤ t ∧ t ≤ j ∧ j ≤ N ∧ Below w.heap.size w wr) (fun x y _ => ((intOf y) - (intOf x)).toNat)
  case atStart => exact ⟨0, N, rfl, rfl, by omega, ht, by omega, (by (repeat (first | (with_reducible refine Below.drew ?_) | (with_reducible refine below_drewN ?_ _) | (with_reducible refine Below.alloc ?_ (by first | omega | (simp; done) | (simp; omega) | (simp at *; omega)) _) | (with_reducible refine Below.setCell ?_ (by first | omega | (simp; done) | (simp; omega) | (simp at *; omega)) _) | (with_reducible exact Below.refl _ _) | (with_reducible assumption) | (with_reducible refine Below.trans ?_ (Below.mono (by assumption) (by first | omega | (simp; done) | (simp; omega) | (simp at *; omega)))))))⟩
  case round =>
    obtain ⟨i, j, rfl, rfl, hi, hj, hjN, hB⟩ := hrel
    have hsz := hB.size
    by_cases hlt : i < j
    · obtain ⟨h, hh⟩ : ∃ h : Nat, Hid ((i + j) / 2 = h) := ⟨_, rfl⟩
      have h1 : i ≤ h ∧ h < j := by rw [← hh.out]; omega
      obtain ⟨h2, h3⟩ := h1
      have e1 : IntKind.i64.wrap ((i : Int) + j) = (i : Int) + j := IntWalk.i64_in _ (by omega)
      have e5 : IntKind.i64.wrap ((h : Int) + 1) = (h : Int) + 1 := IntWalk.i64_in _ (by omega)
      have e6 : IntKind.i64.wrap (h : Int) = h := IntWalk.i64_in _ (by omega)
      have d1 : ((i : Int) + j) / 2 = h := by rw [← hh.out]; omega
      have hlt' : (i : Int) < j := by omega
      cases hp : p h with
      | true =>
        have hC2 : Hid (∀ w', Below w.heap.size w w' → Calls Tryz.prog 52 #[.int .i64 h, .pointer (some ⟨b1, 0, none⟩), .pointer (some ⟨b2, 0, none⟩), .pointer (some ⟨b3, 0, none⟩)] w' fun e w'' => e = .returned (.bool true) ∧ Below w'.heap.size w' w'') := Lib.hid fun w' hw => by have := hcall.out h w' (by omega) hw; rw [hp] at this; exact this
        have ht2 : t ≤ h := by
          rcases Nat.lt_or_ge h t with q | q
          · have := hlo.out h q; rw [hp] at this; cases this
          · exact q
        clear hh hp
        go_wp2_with fail
        refine (hC2.out _ (by (repeat (first | (with_reducible refine Below.drew ?_) | (with_reducible refine below_drewN ?_ _) | (with_reducible refine Below.alloc ?_ (by first | omega | (simp; done) | (simp; omega) | (simp at *; omega)) _) | (with_reducible refine Below.setCell ?_ (by first | omega | (simp; done) | (simp; omega) | (simp at *; omega)) _) | (with_reducible exact Below.refl _ _) | (with_reducible assumption) | (with_reducible refine Below.trans ?_ (Below.mono (by assumption) (by first | omega | (simp; done) | (simp; omega) | (simp at *; omega)))))))).mono ?_
        rintro e x1 ⟨rfl, hb1⟩
        have hB1 : Below w.heap.size w x1 := (by (repeat (first | (with_reducible refine Below.drew ?_) | (with_reducible refine below_drewN ?_ _) | (with_reducible refine Below.alloc ?_ (by first | omega | (simp; done) | (simp; omega) | (simp at *; omega)) _) | (with_reducible refine Below.setCell ?_ (by first | omega | (simp; done) | (simp; omega) | (simp at *; omega)) _) | (with_reducible exact Below.refl _ _) | (with_reducible assumption) | (with_reducible refine Below.trans ?_ (Below.mono (by assumption) (by first | omega | (simp; done) | (simp; omega) | (simp at *; omega)))))))
        clear hb1
        go_wp2
        go_roundw
        case rel => exact ⟨i, h, rfl, rfl, hi, ht2, by omega, hB1⟩
        case measure => (simp [intOf]) <;> omega
      | false =>
        have hC2 : Hid (∀ w', Below w.heap.size w w' → Calls Tryz.prog 52 #[.int .i64 h, .pointer (some ⟨b1, 0, none⟩), .pointer (some ⟨b2, 0, none⟩), .pointer (some ⟨b3, 0, none⟩)] w' fun e w'' => e = .returned (.bool false) ∧ Below w'.heap.size w' w'') := Lib.hid fun w' hw => by have := hcall.out h w' (by omega) hw; rw [hp] at this; exact this
        have ht2 : h < t := by
          rcases Nat.lt_or_ge h t with q | q
          · exact q
          · have := hhi.out h q (by omega); rw [hp] at this; cases this
        clear hh hp
        go_wp2_with fail
        refine (hC2.out _ (by (repeat (first | (with_reducible refine Below.drew ?_) | (with_reducible refine below_drewN ?_ _) | (with_reducible refine Below.alloc ?_ (by first | omega | (simp; done) | (simp; omega) | (simp at *; omega)) _) | (with_reducible refine Below.setCell ?_ (by first | omega | (simp; done) | (simp; omega) | (simp at *; omega)) _) | (with_reducible exact Below.refl _ _) | (with_reducible assumption) | (with_reducible refine Below.trans ?_ (Below.mono (by assumption) (by first | omega | (simp; done) | (simp; omega) | (simp at *; omega)))))))).mono ?_
        rintro e x1 ⟨rfl, hb1⟩
        have hB1 : Below w.heap.size w x1 := (by (repeat (first | (with_reducible refine Below.drew ?_) | (with_reducible refine below_drewN ?_ _) | (with_reducible refine Below.alloc ?_ (by first | omega | (simp; done) | (simp; omega) | (simp at *; omega)) _) | (with_reducible refine Below.setCell ?_ (by first | omega | (simp; done) | (simp; omega) | (simp at *; omega)) _) | (with_reducible exact Below.refl _ _) | (with_reducible assumption) | (with_reducible refine Below.trans ?_ (Below.mono (by assumption) (by first | omega | (simp; done) | (simp; omega) | (simp at *; omega)))))))
        clear hb1
        go_wp2
        go_roundw
        case rel => exact ⟨h + 1, j, by go_num, rfl, ht2, hj, hjN, hB1⟩
        case measure => (simp [intOf]) <;> omega
    · have hk : i = t ∧ j = t := by omega
      obtain ⟨rfl, rfl⟩ := hk
      go_wp2
      go_ret
      exact ⟨rfl, hB⟩
end Go.Proofs.YtijdphlejokijaaGreat
