/- Whether a minute is in windows (the specification); SiteMinutes. -/
import Derived.Test.YtallnjehhoengaaGreatSLawFit
import Derived.Test.YtallnjehhoengaaGreatSMinM
import Derived.Outline
namespace Go.Proofs.YtallnjehhoengaaGreat
open Go.ChangeShapes Go.WideShapes Go.ChangeAt Go.RowKit
set_option linter.unusedVariables false
set_option linter.unusedSimpArgs false
attribute [local go_sem ↓] Go.wp_at_zero Go.wp_at_succ
set_option maxRecDepth 100000 in
set_option maxHeartbeats 1000000 in
theorem refIn_is (L : List Rg) (A : Option Addr) (cap n : Nat) (m : Int) (p : Bool) (w : World) (hn : Hid (n = L.length)) (hl : n ≤ 1000000) (hL : SlRows rgV 2 w A L) (hp : Hid (inW L m = p)) :
    Calls Tryz.prog 49 #[.slice A n cap, .int .i64 m] w fun e w' => e = .returned (.bool p) ∧ Below w.heap.size w w' := by
  have HR : Hid (∀ w' : World, Below w.heap.size w w' → SlRows rgV 2 w' A L) := Lib.hid fun w' hB => hL.below hB
  clear hL
  go_enter Tryz.func49, Tryz.ntmps49
  go_wp2
  go_loopw [5] (fun i wr => ∃ k : Nat, k ≤ n ∧ i = .int .i64 k ∧ Hid (∀ j, j < k → inB m (L.getD j default).lo (L.getD j default).hi = false) ∧ Below w.heap.size w wr) (fun i _ => n - (intOf i).toNat)
  case atStart => exact ⟨0, by omega, rfl, Lib.hid fun j hj => by omega, (by (repeat (first | (with_reducible refine Below.drew ?_) | (with_reducible refine below_drewN ?_ _) | (with_reducible refine Below.alloc ?_ (by first | omega | (simp; done) | (simp; omega) | (simp at *; omega)) _) | (with_reducible refine Below.setCell ?_ (by first | omega | (simp; done) | (simp; omega) | (simp at *; omega)) _) | (with_reducible exact Below.refl _ _) | (with_reducible assumption) | (with_reducible refine Below.trans ?_ (Below.mono (by assumption) (by first | omega | (simp; done) | (simp; omega) | (simp at *; omega)))))))⟩
  case round =>
    obtain ⟨k, hk, rfl, hz, hB⟩ := hrel
    have hsz := hB.size
    by_cases hkn : k < n
    · have hkl : k < L.length := by have := hn.out; omega
      have kn : (k : Int) < (n : Int) := by omega
      rcases HR.out _ hB with h0 | ⟨bl, off, rfl, hlt, hR⟩
      · rw [h0] at hkl; simp at hkl
      obtain ⟨c0, c1⟩ := rg_at hR hkl
      obtain ⟨⟨a, b⟩, hx⟩ : ∃ x, Hid (L.getD k default = x) := ⟨_, Lib.hid rfl⟩
      rw [hx.out] at c0 c1
      dsimp only at c0 c1
      rcases inB_cases m a b with hi | hi
      · have hr : Hid (p = true) := Lib.hid (by rw [← hp.out]; exact inW_at hkl (by rw [hx.out]; exact hi))
        have HI := Lib.hid hi
        clear hi hz hR
        go_upto_region 4 with (fail)
        refine wp_region_held_drew (S := (fun w' => w'.cell? ⟨bl, off + k * 2, none⟩ = some (.int .i64 a) ∧ w'.cell? ⟨bl, off + k * 2 + 1, none⟩ = some (.int .i64 b))) (by kernel_rfl) (by simp [go_sem, World.cell?_alloc_past, *]) (fun hHeld => ?_)
        refine tkH 0 ⟨some 12, _, _, _, _, _⟩ ?_ rfl ?_ (by assumption) ?_
        rotate_left
        · (intro w hSw; (try dsimp only at hSw); go_simp; all_goals with_reducible rfl)
        try simp only [Act.put, sA, sB, sC]
        refine tkH 1 ⟨some 13, _, _, _, _, _⟩ ?_ rfl ?_ (by assumption) ?_
        rotate_left
        · (intro w hSw; (try dsimp only at hSw); go_simp; all_goals with_reducible rfl)
        try simp only [Act.put, sA, sB, sC]
        refine tkH 2 ⟨some 14, _, _, _, _, _⟩ ?_ rfl ?_ (by assumption) ?_
        rotate_left
        · (intro w hSw; (try dsimp only at hSw); go_simp; all_goals with_reducible rfl)
        try simp only [Act.put, sA, sB, sC]
        refine tkH 3 ⟨some 15, _, _, _, _, _⟩ ?_ rfl ?_ (by assumption) ?_
        rotate_left
        · (intro w hSw; (try dsimp only at hSw); go_simp; all_goals with_reducible rfl)
        try simp only [Act.put, sA, sB, sC]
        refine tkH 4 ⟨some 16, _, _, _, _, _⟩ ?_ rfl ?_ (by assumption) ?_
        rotate_left
        · (intro w hSw; (try dsimp only at hSw); go_simp; all_goals with_reducible rfl)
        try simp only [Act.put, sA, sB, sC]
        refine tkH 5 ⟨some 17, _, _, _, _, _⟩ ?_ rfl ?_ (by assumption) ?_
        rotate_left
        · (intro w hSw; (try dsimp only at hSw); go_simp; all_goals with_reducible rfl)
        try simp only [Act.put, sA, sB, sC]
        refine tkH 6 ⟨some 18, _, _, _, _, _⟩ ?_ rfl ?_ (by assumption) ?_
        rotate_left
        · (intro w hSw; (try dsimp only at hSw); go_simp; all_goals with_reducible rfl)
        try simp only [Act.put, sA, sB, sC]
        refine tkH 7 ⟨some 19, _, _, _, _, _⟩ ?_ rfl ?_ (by assumption) ?_
        rotate_left
        · (intro w hSw; (try dsimp only at hSw); go_simp; all_goals with_reducible rfl)
        try simp only [Act.put, sA, sB, sC]
        refine tkH 8 ⟨some 20, _, _, _, _, _⟩ ?_ rfl ?_ (by assumption) ?_
        rotate_left
        · (intro w hSw; (try dsimp only at hSw); go_simp; all_goals with_reducible rfl)
        try simp only [Act.put, sA, sB, sC]
        refine tkH 9 ⟨some 21, _, _, _, _, _⟩ ?_ rfl ?_ (by assumption) ?_
        rotate_left
        · (intro w hSw; (try dsimp only at hSw); go_simp; all_goals with_reducible rfl)
        try simp only [Act.put, sA, sB, sC]
        refine tkH 10 ⟨some 22, _, _, _, _, _⟩ ?_ rfl ?_ (by assumption) ?_
        rotate_left
        · (intro w hSw; (try dsimp only at hSw); go_simp; all_goals with_reducible rfl)
        try simp only [Act.put, sA, sB, sC]
        refine wpAnyH_ready (rs := [11]) (by kernel_rfl) (by simp) ?_
        refine AllReadyH.cons rfl (fun K hK => ?_) AllReadyH.nil
        go_simp
        refine (bWithin_is m a b _ _ HI).mono ?_
        rintro e w' ⟨rfl, rfl⟩
        go_wp2_with fail
        refine hK.out _ _ (by simp [go_sem, World.cell?_alloc_past, *]) (fun hHeld => ?_)
        clear hK K
        try simp only [Act.put, sA, sB, sC]
        refine wpAnyH_done (by kernel_rfl) ?_ _
        go_wp2
        go_ret
        exact ⟨ret_bool hr.out.symm, (by (repeat (first | (with_reducible refine Below.drew ?_) | (with_reducible refine below_drewN ?_ _) | (with_reducible refine Below.alloc ?_ (by first | omega | (simp; done) | (simp; omega) | (simp at *; omega)) _) | (with_reducible refine Below.setCell ?_ (by first | omega | (simp; done) | (simp; omega) | (simp at *; omega)) _) | (with_reducible exact Below.refl _ _) | (with_reducible assumption) | (with_reducible refine Below.trans ?_ (Below.mono (by assumption) (by first | omega | (simp; done) | (simp; omega) | (simp at *; omega)))))))⟩
      · have hz2 : Hid (∀ j, j < k + 1 → inB m (L.getD j default).lo (L.getD j default).hi = false) := Lib.hid fun j hj => by
          by_cases e : j = k
          · rw [e, hx.out]; exact hi
          · exact hz.out j (by omega)
        have HI := Lib.hid hi
        clear hi hz hR
        go_upto_region 4 with (fail)
        refine wp_region_held_drew (S := (fun w' => w'.cell? ⟨bl, off + k * 2, none⟩ = some (.int .i64 a) ∧ w'.cell? ⟨bl, off + k * 2 + 1, none⟩ = some (.int .i64 b))) (by kernel_rfl) (by simp [go_sem, World.cell?_alloc_past, *]) (fun hHeld => ?_)
        refine tkH 0 ⟨some 12, _, _, _, _, _⟩ ?_ rfl ?_ (by assumption) ?_
        rotate_left
        · (intro w hSw; (try dsimp only at hSw); go_simp; all_goals with_reducible rfl)
        try simp only [Act.put, sA, sB, sC]
        refine tkH 1 ⟨some 13, _, _, _, _, _⟩ ?_ rfl ?_ (by assumption) ?_
        rotate_left
        · (intro w hSw; (try dsimp only at hSw); go_simp; all_goals with_reducible rfl)
        try simp only [Act.put, sA, sB, sC]
        refine tkH 2 ⟨some 14, _, _, _, _, _⟩ ?_ rfl ?_ (by assumption) ?_
        rotate_left
        · (intro w hSw; (try dsimp only at hSw); go_simp; all_goals with_reducible rfl)
        try simp only [Act.put, sA, sB, sC]
        refine tkH 3 ⟨some 15, _, _, _, _, _⟩ ?_ rfl ?_ (by assumption) ?_
        rotate_left
        · (intro w hSw; (try dsimp only at hSw); go_simp; all_goals with_reducible rfl)
        try simp only [Act.put, sA, sB, sC]
        refine tkH 4 ⟨some 16, _, _, _, _, _⟩ ?_ rfl ?_ (by assumption) ?_
        rotate_left
        · (intro w hSw; (try dsimp only at hSw); go_simp; all_goals with_reducible rfl)
        try simp only [Act.put, sA, sB, sC]
        refine tkH 5 ⟨some 17, _, _, _, _, _⟩ ?_ rfl ?_ (by assumption) ?_
        rotate_left
        · (intro w hSw; (try dsimp only at hSw); go_simp; all_goals with_reducible rfl)
        try simp only [Act.put, sA, sB, sC]
        refine tkH 6 ⟨some 18, _, _, _, _, _⟩ ?_ rfl ?_ (by assumption) ?_
        rotate_left
        · (intro w hSw; (try dsimp only at hSw); go_simp; all_goals with_reducible rfl)
        try simp only [Act.put, sA, sB, sC]
        refine tkH 7 ⟨some 19, _, _, _, _, _⟩ ?_ rfl ?_ (by assumption) ?_
        rotate_left
        · (intro w hSw; (try dsimp only at hSw); go_simp; all_goals with_reducible rfl)
        try simp only [Act.put, sA, sB, sC]
        refine tkH 8 ⟨some 20, _, _, _, _, _⟩ ?_ rfl ?_ (by assumption) ?_
        rotate_left
        · (intro w hSw; (try dsimp only at hSw); go_simp; all_goals with_reducible rfl)
        try simp only [Act.put, sA, sB, sC]
        refine tkH 9 ⟨some 21, _, _, _, _, _⟩ ?_ rfl ?_ (by assumption) ?_
        rotate_left
        · (intro w hSw; (try dsimp only at hSw); go_simp; all_goals with_reducible rfl)
        try simp only [Act.put, sA, sB, sC]
        refine tkH 10 ⟨some 22, _, _, _, _, _⟩ ?_ rfl ?_ (by assumption) ?_
        rotate_left
        · (intro w hSw; (try dsimp only at hSw); go_simp; all_goals with_reducible rfl)
        try simp only [Act.put, sA, sB, sC]
        refine wpAnyH_ready (rs := [11]) (by kernel_rfl) (by simp) ?_
        refine AllReadyH.cons rfl (fun K hK => ?_) AllReadyH.nil
        go_simp
        refine (bWithin_is m a b _ _ HI).mono ?_
        rintro e w' ⟨rfl, rfl⟩
        go_wp2_with fail
        refine hK.out _ _ (by simp [go_sem, World.cell?_alloc_past, *]) (fun hHeld => ?_)
        clear hK K
        try simp only [Act.put, sA, sB, sC]
        refine wpAnyH_done (by kernel_rfl) ?_ _
        go_wp2
        go_roundw
        case rel => exact ⟨k + 1, by omega, by go_num, hz2, (by (repeat (first | (with_reducible refine Below.drew ?_) | (with_reducible refine below_drewN ?_ _) | (with_reducible refine Below.alloc ?_ (by first | omega | (simp; done) | (simp; omega) | (simp at *; omega)) _) | (with_reducible refine Below.setCell ?_ (by first | omega | (simp; done) | (simp; omega) | (simp at *; omega)) _) | (with_reducible exact Below.refl _ _) | (with_reducible assumption) | (with_reducible refine Below.trans ?_ (Below.mono (by assumption) (by first | omega | (simp; done) | (simp; omega) | (simp at *; omega)))))))⟩
        case measure => (simp [intOf]) <;> omega
    · have hkk : k = n := by omega
      have hr : Hid (p = false) := Lib.hid (by rw [← hp.out]; exact inW_no fun j hj => hz.out j (by have := hn.out; omega))
      clear hz hkk
      go_wp2
      go_ret
      exact ⟨ret_bool hr.out.symm, hB⟩
theorem Meet_is (LA LB : List Rg) (A B : Option Addr) (na nb ca cb : Nat) (w : World) (hna : Hid (na = LA.length)) (hnb : Hid (nb = LB.length)) (na2 : na + nb ≤ 30)
    (HA : Hid (∀ w' : World, Below w.heap.size w w' → SlRows rgV 2 w' A LA)) (HB : Hid (∀ w' : World, Below w.heap.size w w' → SlRows rgV 2 w' B LB)) (CA : Hid (A = none → na = 0 ∧ ca = 0)) (CB : Hid (B = none → nb = 0 ∧ cb = 0)) (hEa : Hid (winE LA = 0)) (hEb : Hid (winE LB = 0)) :
    Calls Tryz.prog 42 #[.slice A na ca, .slice B nb cb] w (WofP (wof (fun m => inW LA m && inW LB m) (srt (mks (LA ++ LB)))).1 w) := by
  go_enter Tryz.func42, Tryz.ntmps42
  go_wp2_with fail
  refine (combM_is LA LB A B na nb ca cb _ (Lib.hid sort_ok) hna hnb na2 HA HB CA CB hEa hEb).mono ?_
  rintro e x ⟨G, cg, rfl, hS, hN, hb⟩
  have HS := Lib.hid hS
  have HN := Lib.hid hN
  clear hS hN
  go_wp2
  go_ret2
  exact ⟨G, cg, rfl, HS.out, HN.out, hb⟩
set_option maxRecDepth 100000 in
set_option maxHeartbeats 2000000 in
theorem mins_0 (LA LB : List Rg) (A B : Option Addr) (na nb ca cb : Nat) (m : Int) (w : World) (hna : Hid (na = LA.length)) (hnb : Hid (nb = LB.length)) (na1 : na ≤ 9223372036854775807) (nb1 : nb ≤ 9223372036854775807) (HRA : Hid (∀ w' : World, Below w.heap.size w w' → SlRows rgV 2 w' A LA)) (HRB : Hid (∀ w' : World, Below w.heap.size w w' → SlRows rgV 2 w' B LB)) (CA : Hid (A = none → na = 0 ∧ ca = 0)) (CB : Hid (B = none → nb = 0 ∧ cb = 0)) (h : 12 < na) : Calls Tryz.prog 11 #[.slice A na ca, .slice B nb cb, .int .i64 m] w fun e w' => e = .returned (.bool true) ∧ Below w.heap.size w w' := by
  have i0 : (12 : Int) < (na : Int) := by omega
  go_enter Tryz.func11, Tryz.ntmps11
  go_wp2_with fail
  refine (awake_any _).mono ?_
  rintro e w1 ⟨rfl, hB1⟩
  have HB1 := Lib.hid hB1
  clear hB1
  go_wp2
  go_ret
  exact ⟨rfl, HB1.out⟩
set_option maxRecDepth 100000 in
set_option maxHeartbeats 2000000 in
theorem mins_1 (LA LB : List Rg) (A B : Option Addr) (na nb ca cb : Nat) (m : Int) (w : World) (hna : Hid (na = LA.length)) (hnb : Hid (nb = LB.length)) (na1 : na ≤ 9223372036854775807) (nb1 : nb ≤ 9223372036854775807) (HRA : Hid (∀ w' : World, Below w.heap.size w w' → SlRows rgV 2 w' A LA)) (HRB : Hid (∀ w' : World, Below w.heap.size w w' → SlRows rgV 2 w' B LB)) (CA : Hid (A = none → na = 0 ∧ ca = 0)) (CB : Hid (B = none → nb = 0 ∧ cb = 0)) (h0 : na ≤ 12) (h : 12 < nb) : Calls Tryz.prog 11 #[.slice A na ca, .slice B nb cb, .int .i64 m] w fun e w' => e = .returned (.bool true) ∧ Below w.heap.size w w' := by
  have i0 : ¬ (12 : Int) < (na : Int) := by omega
  have i1 : (12 : Int) < (nb : Int) := by omega
  go_enter Tryz.func11, Tryz.ntmps11
  go_wp2_with fail
  refine (awake_any _).mono ?_
  rintro e w1 ⟨rfl, hB1⟩
  have HB1 := Lib.hid hB1
  clear hB1
  go_wp2
  go_ret
  exact ⟨rfl, HB1.out⟩
set_option maxRecDepth 100000 in
set_option maxHeartbeats 2000000 in
theorem mins_2 (LA LB : List Rg) (A B : Option Addr) (na nb ca cb : Nat) (m : Int) (w : World) (hna : Hid (na = LA.length)) (hnb : Hid (nb = LB.length)) (na1 : na ≤ 12) (nb1 : nb ≤ 12) (HRA : Hid (∀ w' : World, Below w.heap.size w w' → SlRows rgV 2 w' A LA)) (HRB : Hid (∀ w' : World, Below w.heap.size w w' → SlRows rgV 2 w' B LB)) (CA : Hid (A = none → na = 0 ∧ ca = 0)) (CB : Hid (B = none → nb = 0 ∧ cb = 0)) (E : Int) (hE : Hid (winE LA = E)) (hz : (E != 0) = true) : Calls Tryz.prog 11 #[.slice A na ca, .slice B nb cb, .int .i64 m] w fun e w' => e = .returned (.bool true) ∧ Below w.heap.size w w' := by
  have i0 : ¬ (12 : Int) < (na : Int) := by omega
  have i1 : ¬ (12 : Int) < (nb : Int) := by omega
  go_enter Tryz.func11, Tryz.ntmps11
  go_wp2_with fail
  refine (awake_any _).mono ?_
  rintro e w1 ⟨rfl, hB1⟩
  have HB1 := Lib.hid hB1
  clear hB1
  go_wp2_with fail
  refine (refWindows_is LA A ca na E _ hna (by omega) (HRA.out _ HB1.out) hE).mono ?_
  rintro e w2 ⟨rfl, hb2⟩
  have HB2 := Lib.hid (HB1.out.trans (hb2.mono HB1.out.size))
  clear hb2
  go_wp2
  go_ret
  exact ⟨rfl, HB2.out⟩
set_option maxRecDepth 100000 in
set_option maxHeartbeats 2000000 in
theorem mins_3 (LA LB : List Rg) (A B : Option Addr) (na nb ca cb : Nat) (m : Int) (w : World) (hna : Hid (na = LA.length)) (hnb : Hid (nb = LB.length)) (na1 : na ≤ 12) (nb1 : nb ≤ 12) (HRA : Hid (∀ w' : World, Below w.heap.size w w' → SlRows rgV 2 w' A LA)) (HRB : Hid (∀ w' : World, Below w.heap.size w w' → SlRows rgV 2 w' B LB)) (CA : Hid (A = none → na = 0 ∧ ca = 0)) (CB : Hid (B = none → nb = 0 ∧ cb = 0)) (E : Int) (hA : Hid (winE LA = 0)) (hE : Hid (winE LB = E)) (hz : (E != 0) = true) : Calls Tryz.prog 11 #[.slice A na ca, .slice B nb cb, .int .i64 m] w fun e w' => e = .returned (.bool true) ∧ Below w.heap.size w w' := by
  have i0 : ¬ (12 : Int) < (na : Int) := by omega
  have i1 : ¬ (12 : Int) < (nb : Int) := by omega
  go_enter Tryz.func11, Tryz.ntmps11
  go_wp2_with fail
  refine (awake_any _).mono ?_
  rintro e w1 ⟨rfl, hB1⟩
  have HB1 := Lib.hid hB1
  clear hB1
  go_wp2_with fail
  refine (refWindows_is LA A ca na 0 _ hna (by omega) (HRA.out _ HB1.out) hA).mono ?_
  rintro e w2 ⟨rfl, hb2⟩
  have HB2 := Lib.hid (HB1.out.trans (hb2.mono HB1.out.size))
  clear hb2
  go_wp2_with fail
  refine (refWindows_is LB B cb nb E _ hnb (by omega) (HRB.out _ HB2.out) hE).mono ?_
  rintro e w3 ⟨rfl, hb3⟩
  have HB3 := Lib.hid (HB2.out.trans (hb3.mono HB2.out.size))
  clear hb3
  go_wp2
  go_ret
  exact ⟨rfl, HB3.out⟩
set_option maxRecDepth 100000 in
set_option maxHeartbeats 2000000 in
theorem mins_tt (LA LB : List Rg) (A B : Option Addr) (na nb ca cb : Nat) (m : Int) (w : World) (hna : Hid (na = LA.length)) (hnb : Hid (nb = LB.length)) (na1 : na ≤ 12) (nb1 : nb ≤ 12) (HRA : Hid (∀ w' : World, Below w.heap.size w w' → SlRows rgV 2 w' A LA)) (HRB : Hid (∀ w' : World, Below w.heap.size w w' → SlRows rgV 2 w' B LB)) (CA : Hid (A = none → na = 0 ∧ ca = 0)) (CB : Hid (B = none → nb = 0 ∧ cb = 0)) (hA : Hid (winE LA = 0)) (hBe : Hid (winE LB = 0)) (hp : Hid (inW LA m = true)) (hq : Hid (inW LB m = true)) : Calls Tryz.prog 11 #[.slice A na ca, .slice B nb cb, .int .i64 m] w fun e w' => e = .returned (.bool true) ∧ Below w.heap.size w w' := by
  have i0 : ¬ (12 : Int) < (na : Int) := by omega
  have i1 : ¬ (12 : Int) < (nb : Int) := by omega
  have HW1 := Lib.hid (comb_win (fun a b => a && b) rfl hA.out hBe.out (by have := hna.out; have := hnb.out; omega))
  have HW2 := Lib.hid (comb_win (fun a b => a || b) rfl hA.out hBe.out (by have := hna.out; have := hnb.out; omega))
  have HI1 := (comb_is (fun a b => a && b) rfl LA LB).2
  have HI2 := (comb_is (fun a b => a || b) rfl LA LB).2
  obtain ⟨P, hP⟩ : ∃ P, Hid ((wof (fun m => inW LA m && inW LB m) (srt (mks (LA ++ LB)))).1 = P) := ⟨_, Lib.hid rfl⟩
  obtain ⟨Q, hQ⟩ : ∃ Q, Hid ((wof (fun m => inW LA m || inW LB m) (srt (mks (LA ++ LB)))).1 = Q) := ⟨_, Lib.hid rfl⟩
  try dsimp only at HI1 HI2 HW1 HW2
  rw [hP.out] at HI1 HW1
  rw [hQ.out] at HI2 HW2
  have hr : Hid (inW P m = true) := Lib.hid (by rw [HI1.1 m, hp.out, hq.out]; rfl)
  have hs : Hid (inW Q m = true) := Lib.hid (by rw [HI2.1 m, hp.out, hq.out]; rfl)
  have lP : P.length ≤ 30 := by have := HI1.2; have := hna.out; have := hnb.out; omega
  have lQ : Q.length ≤ 30 := by have := HI2.2; have := hna.out; have := hnb.out; omega
  have iP : (P.length : Int) ≤ 30 := by omega
  have iQ : (Q.length : Int) ≤ 30 := by omega
  clear HI1 HI2
  go_enter Tryz.func11, Tryz.ntmps11
  go_wp2_with fail
  refine (awake_any _).mono ?_
  rintro e w1 ⟨rfl, hB1⟩
  have HB1 := Lib.hid hB1
  clear hB1
  go_wp2_with fail
  refine (refWindows_is LA A ca na 0 _ hna (by omega) (HRA.out _ HB1.out) hA).mono ?_
  rintro e w2 ⟨rfl, hb2⟩
  have HB2 := Lib.hid (HB1.out.trans (hb2.mono HB1.out.size))
  clear hb2
  go_wp2_with fail
  refine (refWindows_is LB B cb nb 0 _ hnb (by omega) (HRB.out _ HB2.out) hBe).mono ?_
  rintro e w3 ⟨rfl, hb3⟩
  have HB3 := Lib.hid (HB2.out.trans (hb3.mono HB2.out.size))
  clear hb3
  go_wp2_with fail
  refine (copyRg_is LA A ca na _ hna (by omega) (HRA.out _ HB3.out) CA).mono ?_
  rintro e w4 ⟨G4, c4, rfl, hS4, hC4, hb4⟩
  have HB4 := Lib.hid (HB3.out.trans (hb4.mono HB3.out.size))
  have HC4 := Lib.hid hC4
  clear hC4
  go_wp2_with fail
  refine (copyRg_is LB B cb nb _ hnb (by omega) (HRB.out _ HB4.out) CB).mono ?_
  rintro e w5 ⟨G5, c5, rfl, hS5, hC5, hb5⟩
  have HB5 := Lib.hid (HB4.out.trans (hb5.mono HB4.out.size))
  have HC5 := Lib.hid hC5
  clear hC5
  have hT4 := hS4.below hb5
  have HX4 : Hid (∀ x : World, Below w5.heap.size w5 x → SlRows rgV 2 x G4 LA) := Lib.hid fun x h => hT4.below h
  have HY4 : Hid (∀ x : World, Below w5.heap.size w5 x → SlRows rgV 2 x G5 LB) := Lib.hid fun x h => hS5.below h
  clear hS4 hS5 hT4 hb4 hb5
  go_wp2_with fail
  refine (Meet_is LA LB G4 G5 na nb c4 c5 _ hna hnb (by omega) HX4 HY4 HC4 HC5 hA hBe).mono ?_
  rintro e w6 ⟨X4, x4, rfl, hS6, hN6, hb6⟩
  have HB6 := Lib.hid (HB5.out.trans (hb6.mono HB5.out.size))
  have HW4 := Lib.hid hS6
  clear hS6 hN6
  rw [hP.out] at HW4 ⊢
  have HV4 : Hid (∀ x : World, Below w6.heap.size w6 x → SlRows rgV 2 x X4 P) := Lib.hid fun x h => HW4.out.below h
  clear hb6
  go_wp2_with fail
  refine (copyRg_is LA A ca na _ hna (by omega) (HRA.out _ HB6.out) CA).mono ?_
  rintro e w7 ⟨G7, c7, rfl, hS7, hC7, hb7⟩
  have HB7 := Lib.hid (HB6.out.trans (hb7.mono HB6.out.size))
  have HC7 := Lib.hid hC7
  clear hC7
  go_wp2_with fail
  refine (copyRg_is LB B cb nb _ hnb (by omega) (HRB.out _ HB7.out) CB).mono ?_
  rintro e w8 ⟨G8, c8, rfl, hS8, hC8, hb8⟩
  have HB8 := Lib.hid (HB7.out.trans (hb8.mono HB7.out.size))
  have HC8 := Lib.hid hC8
  clear hC8
  have hT7 := hS7.below hb8
  have HX7 : Hid (∀ x : World, Below w8.heap.size w8 x → SlRows rgV 2 x G7 LA) := Lib.hid fun x h => hT7.below h
  have HY7 : Hid (∀ x : World, Below w8.heap.size w8 x → SlRows rgV 2 x G8 LB) := Lib.hid fun x h => hS8.below h
  have hx8 : Below w6.heap.size w6 w8 := hb7.trans (hb8.mono hb7.size)
  clear hS7 hS8 hT7 hb7 hb8
  go_wp2_with fail
  refine (Join_is LA LB G7 G8 na nb c7 c8 _ hna hnb (by omega) HX7 HY7 HC7 HC8 hA hBe).mono ?_
  rintro e w9 ⟨X7, x7, rfl, hS9, hN9, hb9⟩
  have HB9 := Lib.hid (HB8.out.trans (hb9.mono HB8.out.size))
  have HW7 := Lib.hid hS9
  clear hS9 hN9
  rw [hQ.out] at HW7 ⊢
  go_wp2_with fail
  refine (refIn_is LA A ca na m _ _ hna (by omega) (HRA.out _ HB9.out) hp).mono ?_
  rintro e w10 ⟨rfl, hb10⟩
  have HB10 := Lib.hid (HB9.out.trans (hb10.mono HB9.out.size))
  go_wp2_with fail
  refine (refIn_is LB B cb nb m _ _ hnb (by omega) (HRB.out _ HB10.out) hq).mono ?_
  rintro e w11 ⟨rfl, hb11⟩
  have HB11 := Lib.hid (HB10.out.trans (hb11.mono HB10.out.size))
  have hx9 : Below w6.heap.size w6 w11 := ((hx8.trans (hb9.mono hx8.size)).trans (hb10.mono (hx8.trans (hb9.mono hx8.size)).size)).trans (hb11.mono ((hx8.trans (hb9.mono hx8.size)).trans (hb10.mono (hx8.trans (hb9.mono hx8.size)).size)).size)
  have hX11 : SlRows rgV 2 w11 X4 P := HV4.out _ hx9
  have hY11 : SlRows rgV 2 w11 X7 Q := (HW7.out.below hb10).below hb11
  have HX11 := Lib.hid hX11
  have HY11 := Lib.hid hY11
  clear hX11 hY11 hb10 hb11 hx9 hx8 hb9
  go_wp2_with fail
  refine (refIn_is P X4 x4 _ m _ _ (Lib.hid rfl) (by omega) (HX11.out) hr).mono ?_
  rintro e w12 ⟨rfl, hb12⟩
  have HB12 := Lib.hid (HB11.out.trans (hb12.mono HB11.out.size))
  have HX12 := Lib.hid (HX11.out.below hb12)
  have HY12 := Lib.hid (HY11.out.below hb12)
  clear hb12
  go_wp2_with fail
  refine (refIn_is Q X7 x7 _ m _ _ (Lib.hid rfl) (by omega) (HY12.out) hs).mono ?_
  rintro e w13 ⟨rfl, hb13⟩
  have HB13 := Lib.hid (HB12.out.trans (hb13.mono HB12.out.size))
  have HX13 := Lib.hid (HX12.out.below hb13)
  have HY13 := Lib.hid (HY12.out.below hb13)
  clear hb13
  go_wp2_with fail
  refine (CheckWindows_is P X4 x4 _ 0 _ (Lib.hid rfl) (by omega) HX13.out HW1).mono ?_
  rintro e w14 ⟨rfl, hb14⟩
  have HB14 := Lib.hid (HB13.out.trans (hb14.mono HB13.out.size))
  have HY14 := Lib.hid (HY13.out.below hb14)
  clear hb14
  go_wp2_with fail
  refine (CheckWindows_is Q X7 x7 _ 0 _ (Lib.hid rfl) (by omega) HY14.out HW2).mono ?_
  rintro e w15 ⟨rfl, hb15⟩
  have HB15 := Lib.hid (HB14.out.trans (hb15.mono HB14.out.size))
  clear hb15
  go_wp2
  go_ret
  exact ⟨rfl, HB15.out⟩
set_option maxRecDepth 100000 in
set_option maxHeartbeats 2000000 in
theorem mins_tf (LA LB : List Rg) (A B : Option Addr) (na nb ca cb : Nat) (m : Int) (w : World) (hna : Hid (na = LA.length)) (hnb : Hid (nb = LB.length)) (na1 : na ≤ 12) (nb1 : nb ≤ 12) (HRA : Hid (∀ w' : World, Below w.heap.size w w' → SlRows rgV 2 w' A LA)) (HRB : Hid (∀ w' : World, Below w.heap.size w w' → SlRows rgV 2 w' B LB)) (CA : Hid (A = none → na = 0 ∧ ca = 0)) (CB : Hid (B = none → nb = 0 ∧ cb = 0)) (hA : Hid (winE LA = 0)) (hBe : Hid (winE LB = 0)) (hp : Hid (inW LA m = true)) (hq : Hid (inW LB m = false)) : Calls Tryz.prog 11 #[.slice A na ca, .slice B nb cb, .int .i64 m] w fun e w' => e = .returned (.bool true) ∧ Below w.heap.size w w' := by
  have i0 : ¬ (12 : Int) < (na : Int) := by omega
  have i1 : ¬ (12 : Int) < (nb : Int) := by omega
  have HW1 := Lib.hid (comb_win (fun a b => a && b) rfl hA.out hBe.out (by have := hna.out; have := hnb.out; omega))
  have HW2 := Lib.hid (comb_win (fun a b => a || b) rfl hA.out hBe.out (by have := hna.out; have := hnb.out; omega))
  have HI1 := (comb_is (fun a b => a && b) rfl LA LB).2
  have HI2 := (comb_is (fun a b => a || b) rfl LA LB).2
  obtain ⟨P, hP⟩ : ∃ P, Hid ((wof (fun m => inW LA m && inW LB m) (srt (mks (LA ++ LB)))).1 = P) := ⟨_, Lib.hid rfl⟩
  obtain ⟨Q, hQ⟩ : ∃ Q, Hid ((wof (fun m => inW LA m || inW LB m) (srt (mks (LA ++ LB)))).1 = Q) := ⟨_, Lib.hid rfl⟩
  try dsimp only at HI1 HI2 HW1 HW2
  rw [hP.out] at HI1 HW1
  rw [hQ.out] at HI2 HW2
  have hr : Hid (inW P m = false) := Lib.hid (by rw [HI1.1 m, hp.out, hq.out]; rfl)
  have hs : Hid (inW Q m = true) := Lib.hid (by rw [HI2.1 m, hp.out, hq.out]; rfl)
  have lP : P.length ≤ 30 := by have := HI1.2; have := hna.out; have := hnb.out; omega
  have lQ : Q.length ≤ 30 := by have := HI2.2; have := hna.out; have := hnb.out; omega
  have iP : (P.length : Int) ≤ 30 := by omega
  have iQ : (Q.length : Int) ≤ 30 := by omega
  clear HI1 HI2
  go_enter Tryz.func11, Tryz.ntmps11
  go_wp2_with fail
  refine (awake_any _).mono ?_
  rintro e w1 ⟨rfl, hB1⟩
  have HB1 := Lib.hid hB1
  clear hB1
  go_wp2_with fail
  refine (refWindows_is LA A ca na 0 _ hna (by omega) (HRA.out _ HB1.out) hA).mono ?_
  rintro e w2 ⟨rfl, hb2⟩
  have HB2 := Lib.hid (HB1.out.trans (hb2.mono HB1.out.size))
  clear hb2
  go_wp2_with fail
  refine (refWindows_is LB B cb nb 0 _ hnb (by omega) (HRB.out _ HB2.out) hBe).mono ?_
  rintro e w3 ⟨rfl, hb3⟩
  have HB3 := Lib.hid (HB2.out.trans (hb3.mono HB2.out.size))
  clear hb3
  go_wp2_with fail
  refine (copyRg_is LA A ca na _ hna (by omega) (HRA.out _ HB3.out) CA).mono ?_
  rintro e w4 ⟨G4, c4, rfl, hS4, hC4, hb4⟩
  have HB4 := Lib.hid (HB3.out.trans (hb4.mono HB3.out.size))
  have HC4 := Lib.hid hC4
  clear hC4
  go_wp2_with fail
  refine (copyRg_is LB B cb nb _ hnb (by omega) (HRB.out _ HB4.out) CB).mono ?_
  rintro e w5 ⟨G5, c5, rfl, hS5, hC5, hb5⟩
  have HB5 := Lib.hid (HB4.out.trans (hb5.mono HB4.out.size))
  have HC5 := Lib.hid hC5
  clear hC5
  have hT4 := hS4.below hb5
  have HX4 : Hid (∀ x : World, Below w5.heap.size w5 x → SlRows rgV 2 x G4 LA) := Lib.hid fun x h => hT4.below h
  have HY4 : Hid (∀ x : World, Below w5.heap.size w5 x → SlRows rgV 2 x G5 LB) := Lib.hid fun x h => hS5.below h
  clear hS4 hS5 hT4 hb4 hb5
  go_wp2_with fail
  refine (Meet_is LA LB G4 G5 na nb c4 c5 _ hna hnb (by omega) HX4 HY4 HC4 HC5 hA hBe).mono ?_
  rintro e w6 ⟨X4, x4, rfl, hS6, hN6, hb6⟩
  have HB6 := Lib.hid (HB5.out.trans (hb6.mono HB5.out.size))
  have HW4 := Lib.hid hS6
  clear hS6 hN6
  rw [hP.out] at HW4 ⊢
  have HV4 : Hid (∀ x : World, Below w6.heap.size w6 x → SlRows rgV 2 x X4 P) := Lib.hid fun x h => HW4.out.below h
  clear hb6
  go_wp2_with fail
  refine (copyRg_is LA A ca na _ hna (by omega) (HRA.out _ HB6.out) CA).mono ?_
  rintro e w7 ⟨G7, c7, rfl, hS7, hC7, hb7⟩
  have HB7 := Lib.hid (HB6.out.trans (hb7.mono HB6.out.size))
  have HC7 := Lib.hid hC7
  clear hC7
  go_wp2_with fail
  refine (copyRg_is LB B cb nb _ hnb (by omega) (HRB.out _ HB7.out) CB).mono ?_
  rintro e w8 ⟨G8, c8, rfl, hS8, hC8, hb8⟩
  have HB8 := Lib.hid (HB7.out.trans (hb8.mono HB7.out.size))
  have HC8 := Lib.hid hC8
  clear hC8
  have hT7 := hS7.below hb8
  have HX7 : Hid (∀ x : World, Below w8.heap.size w8 x → SlRows rgV 2 x G7 LA) := Lib.hid fun x h => hT7.below h
  have HY7 : Hid (∀ x : World, Below w8.heap.size w8 x → SlRows rgV 2 x G8 LB) := Lib.hid fun x h => hS8.below h
  have hx8 : Below w6.heap.size w6 w8 := hb7.trans (hb8.mono hb7.size)
  clear hS7 hS8 hT7 hb7 hb8
  go_wp2_with fail
  refine (Join_is LA LB G7 G8 na nb c7 c8 _ hna hnb (by omega) HX7 HY7 HC7 HC8 hA hBe).mono ?_
  rintro e w9 ⟨X7, x7, rfl, hS9, hN9, hb9⟩
  have HB9 := Lib.hid (HB8.out.trans (hb9.mono HB8.out.size))
  have HW7 := Lib.hid hS9
  clear hS9 hN9
  rw [hQ.out] at HW7 ⊢
  go_wp2_with fail
  refine (refIn_is LA A ca na m _ _ hna (by omega) (HRA.out _ HB9.out) hp).mono ?_
  rintro e w10 ⟨rfl, hb10⟩
  have HB10 := Lib.hid (HB9.out.trans (hb10.mono HB9.out.size))
  go_wp2_with fail
  refine (refIn_is LB B cb nb m _ _ hnb (by omega) (HRB.out _ HB10.out) hq).mono ?_
  rintro e w11 ⟨rfl, hb11⟩
  have HB11 := Lib.hid (HB10.out.trans (hb11.mono HB10.out.size))
  have hx9 : Below w6.heap.size w6 w11 := ((hx8.trans (hb9.mono hx8.size)).trans (hb10.mono (hx8.trans (hb9.mono hx8.size)).size)).trans (hb11.mono ((hx8.trans (hb9.mono hx8.size)).trans (hb10.mono (hx8.trans (hb9.mono hx8.size)).size)).size)
  have hX11 : SlRows rgV 2 w11 X4 P := HV4.out _ hx9
  have hY11 : SlRows rgV 2 w11 X7 Q := (HW7.out.below hb10).below hb11
  have HX11 := Lib.hid hX11
  have HY11 := Lib.hid hY11
  clear hX11 hY11 hb10 hb11 hx9 hx8 hb9
  go_wp2_with fail
  refine (refIn_is P X4 x4 _ m _ _ (Lib.hid rfl) (by omega) (HX11.out) hr).mono ?_
  rintro e w12 ⟨rfl, hb12⟩
  have HB12 := Lib.hid (HB11.out.trans (hb12.mono HB11.out.size))
  have HX12 := Lib.hid (HX11.out.below hb12)
  have HY12 := Lib.hid (HY11.out.below hb12)
  clear hb12
  go_wp2_with fail
  refine (refIn_is Q X7 x7 _ m _ _ (Lib.hid rfl) (by omega) (HY12.out) hs).mono ?_
  rintro e w13 ⟨rfl, hb13⟩
  have HB13 := Lib.hid (HB12.out.trans (hb13.mono HB12.out.size))
  have HX13 := Lib.hid (HX12.out.below hb13)
  have HY13 := Lib.hid (HY12.out.below hb13)
  clear hb13
  go_wp2_with fail
  refine (CheckWindows_is P X4 x4 _ 0 _ (Lib.hid rfl) (by omega) HX13.out HW1).mono ?_
  rintro e w14 ⟨rfl, hb14⟩
  have HB14 := Lib.hid (HB13.out.trans (hb14.mono HB13.out.size))
  have HY14 := Lib.hid (HY13.out.below hb14)
  clear hb14
  go_wp2_with fail
  refine (CheckWindows_is Q X7 x7 _ 0 _ (Lib.hid rfl) (by omega) HY14.out HW2).mono ?_
  rintro e w15 ⟨rfl, hb15⟩
  have HB15 := Lib.hid (HB14.out.trans (hb15.mono HB14.out.size))
  clear hb15
  go_wp2
  go_ret
  exact ⟨rfl, HB15.out⟩
set_option maxRecDepth 100000 in
set_option maxHeartbeats 2000000 in
theorem mins_ft (LA LB : List Rg) (A B : Option Addr) (na nb ca cb : Nat) (m : Int) (w : World) (hna : Hid (na = LA.length)) (hnb : Hid (nb = LB.length)) (na1 : na ≤ 12) (nb1 : nb ≤ 12) (HRA : Hid (∀ w' : World, Below w.heap.size w w' → SlRows rgV 2 w' A LA)) (HRB : Hid (∀ w' : World, Below w.heap.size w w' → SlRows rgV 2 w' B LB)) (CA : Hid (A = none → na = 0 ∧ ca = 0)) (CB : Hid (B = none → nb = 0 ∧ cb = 0)) (hA : Hid (winE LA = 0)) (hBe : Hid (winE LB = 0)) (hp : Hid (inW LA m = false)) (hq : Hid (inW LB m = true)) : Calls Tryz.prog 11 #[.slice A na ca, .slice B nb cb, .int .i64 m] w fun e w' => e = .returned (.bool true) ∧ Below w.heap.size w w' := by
  have i0 : ¬ (12 : Int) < (na : Int) := by omega
  have i1 : ¬ (12 : Int) < (nb : Int) := by omega
  have HW1 := Lib.hid (comb_win (fun a b => a && b) rfl hA.out hBe.out (by have := hna.out; have := hnb.out; omega))
  have HW2 := Lib.hid (comb_win (fun a b => a || b) rfl hA.out hBe.out (by have := hna.out; have := hnb.out; omega))
  have HI1 := (comb_is (fun a b => a && b) rfl LA LB).2
  have HI2 := (comb_is (fun a b => a || b) rfl LA LB).2
  obtain ⟨P, hP⟩ : ∃ P, Hid ((wof (fun m => inW LA m && inW LB m) (srt (mks (LA ++ LB)))).1 = P) := ⟨_, Lib.hid rfl⟩
  obtain ⟨Q, hQ⟩ : ∃ Q, Hid ((wof (fun m => inW LA m || inW LB m) (srt (mks (LA ++ LB)))).1 = Q) := ⟨_, Lib.hid rfl⟩
  try dsimp only at HI1 HI2 HW1 HW2
  rw [hP.out] at HI1 HW1
  rw [hQ.out] at HI2 HW2
  have hr : Hid (inW P m = false) := Lib.hid (by rw [HI1.1 m, hp.out, hq.out]; rfl)
  have hs : Hid (inW Q m = true) := Lib.hid (by rw [HI2.1 m, hp.out, hq.out]; rfl)
  have lP : P.length ≤ 30 := by have := HI1.2; have := hna.out; have := hnb.out; omega
  have lQ : Q.length ≤ 30 := by have := HI2.2; have := hna.out; have := hnb.out; omega
  have iP : (P.length : Int) ≤ 30 := by omega
  have iQ : (Q.length : Int) ≤ 30 := by omega
  clear HI1 HI2
  go_enter Tryz.func11, Tryz.ntmps11
  go_wp2_with fail
  refine (awake_any _).mono ?_
  rintro e w1 ⟨rfl, hB1⟩
  have HB1 := Lib.hid hB1
  clear hB1
  go_wp2_with fail
  refine (refWindows_is LA A ca na 0 _ hna (by omega) (HRA.out _ HB1.out) hA).mono ?_
  rintro e w2 ⟨rfl, hb2⟩
  have HB2 := Lib.hid (HB1.out.trans (hb2.mono HB1.out.size))
  clear hb2
  go_wp2_with fail
  refine (refWindows_is LB B cb nb 0 _ hnb (by omega) (HRB.out _ HB2.out) hBe).mono ?_
  rintro e w3 ⟨rfl, hb3⟩
  have HB3 := Lib.hid (HB2.out.trans (hb3.mono HB2.out.size))
  clear hb3
  go_wp2_with fail
  refine (copyRg_is LA A ca na _ hna (by omega) (HRA.out _ HB3.out) CA).mono ?_
  rintro e w4 ⟨G4, c4, rfl, hS4, hC4, hb4⟩
  have HB4 := Lib.hid (HB3.out.trans (hb4.mono HB3.out.size))
  have HC4 := Lib.hid hC4
  clear hC4
  go_wp2_with fail
  refine (copyRg_is LB B cb nb _ hnb (by omega) (HRB.out _ HB4.out) CB).mono ?_
  rintro e w5 ⟨G5, c5, rfl, hS5, hC5, hb5⟩
  have HB5 := Lib.hid (HB4.out.trans (hb5.mono HB4.out.size))
  have HC5 := Lib.hid hC5
  clear hC5
  have hT4 := hS4.below hb5
  have HX4 : Hid (∀ x : World, Below w5.heap.size w5 x → SlRows rgV 2 x G4 LA) := Lib.hid fun x h => hT4.below h
  have HY4 : Hid (∀ x : World, Below w5.heap.size w5 x → SlRows rgV 2 x G5 LB) := Lib.hid fun x h => hS5.below h
  clear hS4 hS5 hT4 hb4 hb5
  go_wp2_with fail
  refine (Meet_is LA LB G4 G5 na nb c4 c5 _ hna hnb (by omega) HX4 HY4 HC4 HC5 hA hBe).mono ?_
  rintro e w6 ⟨X4, x4, rfl, hS6, hN6, hb6⟩
  have HB6 := Lib.hid (HB5.out.trans (hb6.mono HB5.out.size))
  have HW4 := Lib.hid hS6
  clear hS6 hN6
  rw [hP.out] at HW4 ⊢
  have HV4 : Hid (∀ x : World, Below w6.heap.size w6 x → SlRows rgV 2 x X4 P) := Lib.hid fun x h => HW4.out.below h
  clear hb6
  go_wp2_with fail
  refine (copyRg_is LA A ca na _ hna (by omega) (HRA.out _ HB6.out) CA).mono ?_
  rintro e w7 ⟨G7, c7, rfl, hS7, hC7, hb7⟩
  have HB7 := Lib.hid (HB6.out.trans (hb7.mono HB6.out.size))
  have HC7 := Lib.hid hC7
  clear hC7
  go_wp2_with fail
  refine (copyRg_is LB B cb nb _ hnb (by omega) (HRB.out _ HB7.out) CB).mono ?_
  rintro e w8 ⟨G8, c8, rfl, hS8, hC8, hb8⟩
  have HB8 := Lib.hid (HB7.out.trans (hb8.mono HB7.out.size))
  have HC8 := Lib.hid hC8
  clear hC8
  have hT7 := hS7.below hb8
  have HX7 : Hid (∀ x : World, Below w8.heap.size w8 x → SlRows rgV 2 x G7 LA) := Lib.hid fun x h => hT7.below h
  have HY7 : Hid (∀ x : World, Below w8.heap.size w8 x → SlRows rgV 2 x G8 LB) := Lib.hid fun x h => hS8.below h
  have hx8 : Below w6.heap.size w6 w8 := hb7.trans (hb8.mono hb7.size)
  clear hS7 hS8 hT7 hb7 hb8
  go_wp2_with fail
  refine (Join_is LA LB G7 G8 na nb c7 c8 _ hna hnb (by omega) HX7 HY7 HC7 HC8 hA hBe).mono ?_
  rintro e w9 ⟨X7, x7, rfl, hS9, hN9, hb9⟩
  have HB9 := Lib.hid (HB8.out.trans (hb9.mono HB8.out.size))
  have HW7 := Lib.hid hS9
  clear hS9 hN9
  rw [hQ.out] at HW7 ⊢
  go_wp2_with fail
  refine (refIn_is LA A ca na m _ _ hna (by omega) (HRA.out _ HB9.out) hp).mono ?_
  rintro e w10 ⟨rfl, hb10⟩
  have HB10 := Lib.hid (HB9.out.trans (hb10.mono HB9.out.size))
  go_wp2_with fail
  refine (refIn_is LB B cb nb m _ _ hnb (by omega) (HRB.out _ HB10.out) hq).mono ?_
  rintro e w11 ⟨rfl, hb11⟩
  have HB11 := Lib.hid (HB10.out.trans (hb11.mono HB10.out.size))
  have hx9 : Below w6.heap.size w6 w11 := ((hx8.trans (hb9.mono hx8.size)).trans (hb10.mono (hx8.trans (hb9.mono hx8.size)).size)).trans (hb11.mono ((hx8.trans (hb9.mono hx8.size)).trans (hb10.mono (hx8.trans (hb9.mono hx8.size)).size)).size)
  have hX11 : SlRows rgV 2 w11 X4 P := HV4.out _ hx9
  have hY11 : SlRows rgV 2 w11 X7 Q := (HW7.out.below hb10).below hb11
  have HX11 := Lib.hid hX11
  have HY11 := Lib.hid hY11
  clear hX11 hY11 hb10 hb11 hx9 hx8 hb9
  go_wp2_with fail
  refine (refIn_is P X4 x4 _ m _ _ (Lib.hid rfl) (by omega) (HX11.out) hr).mono ?_
  rintro e w12 ⟨rfl, hb12⟩
  have HB12 := Lib.hid (HB11.out.trans (hb12.mono HB11.out.size))
  have HX12 := Lib.hid (HX11.out.below hb12)
  have HY12 := Lib.hid (HY11.out.below hb12)
  clear hb12
  go_wp2_with fail
  refine (refIn_is Q X7 x7 _ m _ _ (Lib.hid rfl) (by omega) (HY12.out) hs).mono ?_
  rintro e w13 ⟨rfl, hb13⟩
  have HB13 := Lib.hid (HB12.out.trans (hb13.mono HB12.out.size))
  have HX13 := Lib.hid (HX12.out.below hb13)
  have HY13 := Lib.hid (HY12.out.below hb13)
  clear hb13
  go_wp2_with fail
  refine (CheckWindows_is P X4 x4 _ 0 _ (Lib.hid rfl) (by omega) HX13.out HW1).mono ?_
  rintro e w14 ⟨rfl, hb14⟩
  have HB14 := Lib.hid (HB13.out.trans (hb14.mono HB13.out.size))
  have HY14 := Lib.hid (HY13.out.below hb14)
  clear hb14
  go_wp2_with fail
  refine (CheckWindows_is Q X7 x7 _ 0 _ (Lib.hid rfl) (by omega) HY14.out HW2).mono ?_
  rintro e w15 ⟨rfl, hb15⟩
  have HB15 := Lib.hid (HB14.out.trans (hb15.mono HB14.out.size))
  clear hb15
  go_wp2
  go_ret
  exact ⟨rfl, HB15.out⟩
set_option maxRecDepth 100000 in
set_option maxHeartbeats 2000000 in
theorem mins_ff (LA LB : List Rg) (A B : Option Addr) (na nb ca cb : Nat) (m : Int) (w : World) (hna : Hid (na = LA.length)) (hnb : Hid (nb = LB.length)) (na1 : na ≤ 12) (nb1 : nb ≤ 12) (HRA : Hid (∀ w' : World, Below w.heap.size w w' → SlRows rgV 2 w' A LA)) (HRB : Hid (∀ w' : World, Below w.heap.size w w' → SlRows rgV 2 w' B LB)) (CA : Hid (A = none → na = 0 ∧ ca = 0)) (CB : Hid (B = none → nb = 0 ∧ cb = 0)) (hA : Hid (winE LA = 0)) (hBe : Hid (winE LB = 0)) (hp : Hid (inW LA m = false)) (hq : Hid (inW LB m = false)) : Calls Tryz.prog 11 #[.slice A na ca, .slice B nb cb, .int .i64 m] w fun e w' => e = .returned (.bool true) ∧ Below w.heap.size w w' := by
  have i0 : ¬ (12 : Int) < (na : Int) := by omega
  have i1 : ¬ (12 : Int) < (nb : Int) := by omega
  have HW1 := Lib.hid (comb_win (fun a b => a && b) rfl hA.out hBe.out (by have := hna.out; have := hnb.out; omega))
  have HW2 := Lib.hid (comb_win (fun a b => a || b) rfl hA.out hBe.out (by have := hna.out; have := hnb.out; omega))
  have HI1 := (comb_is (fun a b => a && b) rfl LA LB).2
  have HI2 := (comb_is (fun a b => a || b) rfl LA LB).2
  obtain ⟨P, hP⟩ : ∃ P, Hid ((wof (fun m => inW LA m && inW LB m) (srt (mks (LA ++ LB)))).1 = P) := ⟨_, Lib.hid rfl⟩
  obtain ⟨Q, hQ⟩ : ∃ Q, Hid ((wof (fun m => inW LA m || inW LB m) (srt (mks (LA ++ LB)))).1 = Q) := ⟨_, Lib.hid rfl⟩
  try dsimp only at HI1 HI2 HW1 HW2
  rw [hP.out] at HI1 HW1
  rw [hQ.out] at HI2 HW2
  have hr : Hid (inW P m = false) := Lib.hid (by rw [HI1.1 m, hp.out, hq.out]; rfl)
  have hs : Hid (inW Q m = false) := Lib.hid (by rw [HI2.1 m, hp.out, hq.out]; rfl)
  have lP : P.length ≤ 30 := by have := HI1.2; have := hna.out; have := hnb.out; omega
  have lQ : Q.length ≤ 30 := by have := HI2.2; have := hna.out; have := hnb.out; omega
  have iP : (P.length : Int) ≤ 30 := by omega
  have iQ : (Q.length : Int) ≤ 30 := by omega
  clear HI1 HI2
  go_enter Tryz.func11, Tryz.ntmps11
  go_wp2_with fail
  refine (awake_any _).mono ?_
  rintro e w1 ⟨rfl, hB1⟩
  have HB1 := Lib.hid hB1
  clear hB1
  go_wp2_with fail
  refine (refWindows_is LA A ca na 0 _ hna (by omega) (HRA.out _ HB1.out) hA).mono ?_
  rintro e w2 ⟨rfl, hb2⟩
  have HB2 := Lib.hid (HB1.out.trans (hb2.mono HB1.out.size))
  clear hb2
  go_wp2_with fail
  refine (refWindows_is LB B cb nb 0 _ hnb (by omega) (HRB.out _ HB2.out) hBe).mono ?_
  rintro e w3 ⟨rfl, hb3⟩
  have HB3 := Lib.hid (HB2.out.trans (hb3.mono HB2.out.size))
  clear hb3
  go_wp2_with fail
  refine (copyRg_is LA A ca na _ hna (by omega) (HRA.out _ HB3.out) CA).mono ?_
  rintro e w4 ⟨G4, c4, rfl, hS4, hC4, hb4⟩
  have HB4 := Lib.hid (HB3.out.trans (hb4.mono HB3.out.size))
  have HC4 := Lib.hid hC4
  clear hC4
  go_wp2_with fail
  refine (copyRg_is LB B cb nb _ hnb (by omega) (HRB.out _ HB4.out) CB).mono ?_
  rintro e w5 ⟨G5, c5, rfl, hS5, hC5, hb5⟩
  have HB5 := Lib.hid (HB4.out.trans (hb5.mono HB4.out.size))
  have HC5 := Lib.hid hC5
  clear hC5
  have hT4 := hS4.below hb5
  have HX4 : Hid (∀ x : World, Below w5.heap.size w5 x → SlRows rgV 2 x G4 LA) := Lib.hid fun x h => hT4.below h
  have HY4 : Hid (∀ x : World, Below w5.heap.size w5 x → SlRows rgV 2 x G5 LB) := Lib.hid fun x h => hS5.below h
  clear hS4 hS5 hT4 hb4 hb5
  go_wp2_with fail
  refine (Meet_is LA LB G4 G5 na nb c4 c5 _ hna hnb (by omega) HX4 HY4 HC4 HC5 hA hBe).mono ?_
  rintro e w6 ⟨X4, x4, rfl, hS6, hN6, hb6⟩
  have HB6 := Lib.hid (HB5.out.trans (hb6.mono HB5.out.size))
  have HW4 := Lib.hid hS6
  clear hS6 hN6
  rw [hP.out] at HW4 ⊢
  have HV4 : Hid (∀ x : World, Below w6.heap.size w6 x → SlRows rgV 2 x X4 P) := Lib.hid fun x h => HW4.out.below h
  clear hb6
  go_wp2_with fail
  refine (copyRg_is LA A ca na _ hna (by omega) (HRA.out _ HB6.out) CA).mono ?_
  rintro e w7 ⟨G7, c7, rfl, hS7, hC7, hb7⟩
  have HB7 := Lib.hid (HB6.out.trans (hb7.mono HB6.out.size))
  have HC7 := Lib.hid hC7
  clear hC7
  go_wp2_with fail
  refine (copyRg_is LB B cb nb _ hnb (by omega) (HRB.out _ HB7.out) CB).mono ?_
  rintro e w8 ⟨G8, c8, rfl, hS8, hC8, hb8⟩
  have HB8 := Lib.hid (HB7.out.trans (hb8.mono HB7.out.size))
  have HC8 := Lib.hid hC8
  clear hC8
  have hT7 := hS7.below hb8
  have HX7 : Hid (∀ x : World, Below w8.heap.size w8 x → SlRows rgV 2 x G7 LA) := Lib.hid fun x h => hT7.below h
  have HY7 : Hid (∀ x : World, Below w8.heap.size w8 x → SlRows rgV 2 x G8 LB) := Lib.hid fun x h => hS8.below h
  have hx8 : Below w6.heap.size w6 w8 := hb7.trans (hb8.mono hb7.size)
  clear hS7 hS8 hT7 hb7 hb8
  go_wp2_with fail
  refine (Join_is LA LB G7 G8 na nb c7 c8 _ hna hnb (by omega) HX7 HY7 HC7 HC8 hA hBe).mono ?_
  rintro e w9 ⟨X7, x7, rfl, hS9, hN9, hb9⟩
  have HB9 := Lib.hid (HB8.out.trans (hb9.mono HB8.out.size))
  have HW7 := Lib.hid hS9
  clear hS9 hN9
  rw [hQ.out] at HW7 ⊢
  go_wp2_with fail
  refine (refIn_is LA A ca na m _ _ hna (by omega) (HRA.out _ HB9.out) hp).mono ?_
  rintro e w10 ⟨rfl, hb10⟩
  have HB10 := Lib.hid (HB9.out.trans (hb10.mono HB9.out.size))
  go_wp2_with fail
  refine (refIn_is LB B cb nb m _ _ hnb (by omega) (HRB.out _ HB10.out) hq).mono ?_
  rintro e w11 ⟨rfl, hb11⟩
  have HB11 := Lib.hid (HB10.out.trans (hb11.mono HB10.out.size))
  have hx9 : Below w6.heap.size w6 w11 := ((hx8.trans (hb9.mono hx8.size)).trans (hb10.mono (hx8.trans (hb9.mono hx8.size)).size)).trans (hb11.mono ((hx8.trans (hb9.mono hx8.size)).trans (hb10.mono (hx8.trans (hb9.mono hx8.size)).size)).size)
  have hX11 : SlRows rgV 2 w11 X4 P := HV4.out _ hx9
  have hY11 : SlRows rgV 2 w11 X7 Q := (HW7.out.below hb10).below hb11
  have HX11 := Lib.hid hX11
  have HY11 := Lib.hid hY11
  clear hX11 hY11 hb10 hb11 hx9 hx8 hb9
  go_wp2_with fail
  refine (refIn_is P X4 x4 _ m _ _ (Lib.hid rfl) (by omega) (HX11.out) hr).mono ?_
  rintro e w12 ⟨rfl, hb12⟩
  have HB12 := Lib.hid (HB11.out.trans (hb12.mono HB11.out.size))
  have HX12 := Lib.hid (HX11.out.below hb12)
  have HY12 := Lib.hid (HY11.out.below hb12)
  clear hb12
  go_wp2_with fail
  refine (refIn_is Q X7 x7 _ m _ _ (Lib.hid rfl) (by omega) (HY12.out) hs).mono ?_
  rintro e w13 ⟨rfl, hb13⟩
  have HB13 := Lib.hid (HB12.out.trans (hb13.mono HB12.out.size))
  have HX13 := Lib.hid (HX12.out.below hb13)
  have HY13 := Lib.hid (HY12.out.below hb13)
  clear hb13
  go_wp2_with fail
  refine (CheckWindows_is P X4 x4 _ 0 _ (Lib.hid rfl) (by omega) HX13.out HW1).mono ?_
  rintro e w14 ⟨rfl, hb14⟩
  have HB14 := Lib.hid (HB13.out.trans (hb14.mono HB13.out.size))
  have HY14 := Lib.hid (HY13.out.below hb14)
  clear hb14
  go_wp2_with fail
  refine (CheckWindows_is Q X7 x7 _ 0 _ (Lib.hid rfl) (by omega) HY14.out HW2).mono ?_
  rintro e w15 ⟨rfl, hb15⟩
  have HB15 := Lib.hid (HB14.out.trans (hb15.mono HB14.out.size))
  clear hb15
  go_wp2
  go_ret
  exact ⟨rfl, HB15.out⟩
theorem nil_len {L : List Rg} {A : Option Addr} {w : World} {cap : Nat} (hL : SlRows rgV 2 w A L) (hca : A = none → cap = 0) (h : A = none) : L.length = 0 ∧ cap = 0 := by
  refine ⟨?_, hca h⟩
  rcases hL with h0 | ⟨b, off, hA, _, _⟩
  · rw [h0]; rfl
  · rw [h] at hA; cases hA
theorem siteMinutes_any (LA : List Rg) (A : Option Addr) (ca : Nat) (LB : List Rg) (B : Option Addr) (cb : Nat) (m : Int) (w : World) (hl : LA.length ≤ 9223372036854775807) (hca : A = none → ca = 0) (hLA : SlRows rgV 2 w A LA) (hl2 : LB.length ≤ 9223372036854775807) (hcb : B = none → cb = 0) (hLB : SlRows rgV 2 w B LB) :
    Calls Tryz.prog 11 #[.slice A LA.length ca, .slice B LB.length cb, .int .i64 m] w fun e w' => e = .returned (.bool true) ∧ Below w.heap.size w w' := by
  have hna : Hid (LA.length = LA.length) := Lib.hid rfl
  have hnb : Hid (LB.length = LB.length) := Lib.hid rfl
  have HRA : Hid (∀ w' : World, Below w.heap.size w w' → SlRows rgV 2 w' A LA) := Lib.hid fun w' h => hLA.below h
  have HRB : Hid (∀ w' : World, Below w.heap.size w w' → SlRows rgV 2 w' B LB) := Lib.hid fun w' h => hLB.below h
  have CA : Hid (A = none → LA.length = 0 ∧ ca = 0) := Lib.hid (nil_len hLA hca)
  have CB : Hid (B = none → LB.length = 0 ∧ cb = 0) := Lib.hid (nil_len hLB hcb)
  by_cases h0 : 12 < LA.length
  · exact mins_0 LA LB A B _ _ ca cb m w hna hnb hl hl2 HRA HRB CA CB h0
  by_cases h1 : 12 < LB.length
  · exact mins_1 LA LB A B _ _ ca cb m w hna hnb hl hl2 HRA HRB CA CB (by omega) h1
  by_cases h2 : winE LA = 0
  · by_cases h3 : winE LB = 0
    · cases h4 : inW LA m with
      | true =>
        cases h5 : inW LB m with
        | true => exact mins_tt LA LB A B _ _ ca cb m w hna hnb (by omega) (by omega) HRA HRB CA CB (Lib.hid h2) (Lib.hid h3) (Lib.hid h4) (Lib.hid h5)
        | false => exact mins_tf LA LB A B _ _ ca cb m w hna hnb (by omega) (by omega) HRA HRB CA CB (Lib.hid h2) (Lib.hid h3) (Lib.hid h4) (Lib.hid h5)
      | false =>
        cases h5 : inW LB m with
        | true => exact mins_ft LA LB A B _ _ ca cb m w hna hnb (by omega) (by omega) HRA HRB CA CB (Lib.hid h2) (Lib.hid h3) (Lib.hid h4) (Lib.hid h5)
        | false => exact mins_ff LA LB A B _ _ ca cb m w hna hnb (by omega) (by omega) HRA HRB CA CB (Lib.hid h2) (Lib.hid h3) (Lib.hid h4) (Lib.hid h5)
    · exact mins_3 LA LB A B _ _ ca cb m w hna hnb (by omega) (by omega) HRA HRB CA CB _ (Lib.hid h2) (Lib.hid rfl) (by simpa using h3)
  · exact mins_2 LA LB A B _ _ ca cb m w hna hnb (by omega) (by omega) HRA HRB CA CB _ (Lib.hid rfl) (by simpa using h2)
end Go.Proofs.YtallnjehhoengaaGreat
