import Derived.Test.YtojaompfffpofaaGreatZCSWave
import Derived.Outline
namespace Go.Proofs.YtojaompfffpofaaGreat
open Go.ChangeShapes Go.WideShapes Go.ChangeAt Go.RowKit
set_option linter.unusedVariables false
set_option linter.unusedSimpArgs false
attribute [local go_sem ↓] Go.wp_at_zero Go.wp_at_succ
/-- A window. -/
structure Rg where
  lo : Int
  hi : Int
instance : Inhabited Rg := ⟨⟨0, 0⟩⟩
def rgV (x : Rg) : List Value := [.int .i64 x.lo, .int .i64 x.hi]
def minE (a b : Int) : Int := firE [rngE a 0 1000000, rngE b 0 1000000]
/-- The error of the ends of a window; of a window behind another one; the first error among the first n. -/
def endE (x : Rg) : Int := if minE x.lo x.hi = 0 then (if x.hi < x.lo then 9 else 0) else minE x.lo x.hi
def clsB (L : List Rg) (k : Nat) : Bool := decide (0 < k) && decide ((L.getD k default).lo ≤ (L.getD (k - 1) default).hi + 1)
def winF (L : List Rg) (k : Nat) : Int := if endE (L.getD k default) = 0 then (if clsB L k = true then 13 else 0) else endE (L.getD k default)
def fstW (L : List Rg) : Nat → Int
  | 0 => 0
  | k + 1 => if fstW L k = 0 then winF L k else fstW L k
def winE (L : List Rg) : Int := if L.length ≤ 60 then fstW L L.length else 8
theorem fstW_stop {L : List Rg} {k : Nat} (hz : fstW L k = 0) (hn : winF L k ≠ 0) : ∀ n, k < n → fstW L n = winF L k
  | 0, h => by omega
  | n + 1, h => by
    by_cases e : n = k
    · subst e; rw [fstW, if_pos hz]
    · rw [fstW, fstW_stop hz hn n (by omega), if_neg hn]
theorem clsB_cases (L : List Rg) (k : Nat) : (k = 0 ∧ clsB L k = false) ∨ (0 < k ∧ (L.getD k default).lo ≤ (L.getD (k - 1) default).hi + 1 ∧ clsB L k = true) ∨ (0 < k ∧ ¬ (L.getD k default).lo ≤ (L.getD (k - 1) default).hi + 1 ∧ clsB L k = false) := by
  unfold clsB
  by_cases h0 : 0 < k
  · by_cases h1 : (L.getD k default).lo ≤ (L.getD (k - 1) default).hi + 1
    · right; left; exact ⟨h0, h1, by rw [decide_eq_true h0, decide_eq_true h1]; rfl⟩
    · right; right; exact ⟨h0, h1, by rw [decide_eq_true h0, decide_eq_false h1]; rfl⟩
  · left; exact ⟨by omega, by rw [decide_eq_false h0]; rfl⟩
theorem fstW_all {L : List Rg} : ∀ {k : Nat}, fstW L k = 0 → ∀ j, j < k → winF L j = 0
  | 0, _, j, hj => by omega
  | k + 1, h, j, hj => by
    rw [fstW] at h
    by_cases h0 : fstW L k = 0
    · rw [if_pos h0] at h
      by_cases e : j = k
      · rw [e]; exact h
      · exact fstW_all h0 j (by omega)
    · rw [if_neg h0] at h; exact absurd h h0
theorem minE_ok {a b : Int} (h : minE a b = 0) : (0 ≤ a ∧ a ≤ 1000000) ∧ (0 ≤ b ∧ b ≤ 1000000) := by
  unfold minE firE firE firE at h
  by_cases ha : rngE a 0 1000000 = 0
  · rw [if_pos ha] at h
    by_cases hb : rngE b 0 1000000 = 0
    · exact ⟨rngE_0 ha, rngE_0 hb⟩
    · rw [if_neg hb] at h; exact absurd h hb
  · rw [if_neg ha] at h; exact absurd h ha
theorem winF_ok {L : List Rg} {k : Nat} (h : winF L k = 0) : 0 ≤ (L.getD k default).lo ∧ (L.getD k default).lo ≤ (L.getD k default).hi ∧ (L.getD k default).hi ≤ 1000000 ∧ clsB L k = false := by
  unfold winF endE at h
  by_cases h0 : minE (L.getD k default).lo (L.getD k default).hi = 0
  · obtain ⟨⟨b1, b2⟩, b3, b4⟩ := minE_ok h0
    by_cases h1 : (L.getD k default).hi < (L.getD k default).lo
    · rw [if_pos h0, if_pos h1] at h; simp at h
    · rw [if_pos h0, if_neg h1] at h
      cases hc : clsB L k with
      | true => rw [hc] at h; simp at h
      | false => exact ⟨b1, by omega, b4, rfl⟩
  · rw [if_neg h0, if_neg h0] at h; exact absurd h h0
theorem fstW_hi {L : List Rg} {k j : Nat} (h : fstW L k = 0) (hj : j < k) : 0 ≤ (L.getD j default).hi ∧ (L.getD j default).hi ≤ 1000000 := by
  obtain ⟨h1, h2, h3, _⟩ := winF_ok (fstW_all h j hj)
  exact ⟨by omega, h3⟩
theorem rg_at {w : World} {b off : Nat} {L : List Rg} (h : RowsAt rgV 2 w b off L) {k : Nat} (hk : k < L.length) : w.cell? ⟨b, off + k * 2, none⟩ = some (.int .i64 (L.getD k default).lo) ∧ w.cell? ⟨b, off + k * 2 + 1, none⟩ = some (.int .i64 (L.getD k default).hi) := by
  have e : L.getD k default = L[k] := by rw [List.getD_eq_getElem?_getD, List.getElem?_eq_getElem hk]; rfl
  rw [e]
  exact ⟨h k hk 0 (by omega), h k hk 1 (by omega)⟩
set_option maxRecDepth 100000 in
set_option maxHeartbeats 1000000 in
theorem checkEnds_is (a b E : Int) (w : World) (hE : Hid (endE ⟨a, b⟩ = E)) :
    Calls Tryz.prog 81 #[.agg #[.int .i64 a, .int .i64 b]] w fun e w' => e = .returned (.int .i64 E) ∧ Below w.heap.size w w' := by
  have he := hE.out
  unfold endE at he
  dsimp only at he
  obtain ⟨F, hF⟩ : ∃ F, Hid (minE a b = F) := ⟨_, Lib.hid rfl⟩
  rw [hF.out] at he
  clear hE
  rcases ez2 F with ⟨hz, hzb⟩ | ⟨hz, hzb⟩
  · rw [if_pos hz.out] at he
    by_cases hc : b < a
    · rw [if_pos hc] at he
      have HE := Lib.hid he
      clear he hz
      go_enter Tryz.func81, Tryz.ntmps81
      go_upto_region 1 with (fail)
      refine wp_region_held_drew (S := (fun w' => w'.cell? ⟨w.heap.size, 0, none⟩ = some (.int .i64 a) ∧ w'.cell? ⟨w.heap.size, 1, none⟩ = some (.int .i64 b))) (by kernel_rfl) (by simp [go_sem, World.cell?_alloc_past, *]) (fun hHeld => ?_)
      refine tkH 0 ⟨some 4, _, _, _, _, _⟩ ?_ rfl ?_ (by assumption) ?_
      rotate_left
      · (intro w hSw; (try dsimp only at hSw); go_simp; all_goals with_reducible rfl)
      try simp only [Act.put, sA, sB, sC]
      refine tkH 1 ⟨some 5, _, _, _, _, _⟩ ?_ rfl ?_ (by assumption) ?_
      rotate_left
      · (intro w hSw; (try dsimp only at hSw); go_simp; all_goals with_reducible rfl)
      try simp only [Act.put, sA, sB, sC]
      refine tkH 3 ⟨some 7, _, _, _, _, _⟩ ?_ rfl ?_ (by assumption) ?_
      rotate_left
      · (intro w hSw; (try dsimp only at hSw); go_simp; all_goals with_reducible rfl)
      try simp only [Act.put, sA, sB, sC]
      refine tkH 4 ⟨some 8, _, _, _, _, _⟩ ?_ rfl ?_ (by assumption) ?_
      rotate_left
      · (intro w hSw; (try dsimp only at hSw); go_simp; all_goals with_reducible rfl)
      try simp only [Act.put, sA, sB, sC]
      refine wpAnyH_ready (rs := [2]) (by kernel_rfl) (by simp) ?_
      refine AllReadyH.cons rfl (fun K hK => ?_) AllReadyH.nil
      go_simp
      refine (checkMinute_any _ _).mono ?_
      rintro e w' ⟨rfl, rfl⟩
      go_wp2_with fail
      refine hK.out _ _ (by simp [go_sem, World.cell?_alloc_past, *]) (fun hHeld => ?_)
      clear hK K
      try simp only [Act.put, sA, sB, sC]
      refine wpAnyH_ready (rs := [5]) (by kernel_rfl) (by simp) ?_
      refine AllReadyH.cons rfl (fun K hK => ?_) AllReadyH.nil
      go_simp
      refine (checkMinute_any _ _).mono ?_
      rintro e w' ⟨rfl, rfl⟩
      go_wp2_with fail
      refine hK.out _ _ (by simp [go_sem, World.cell?_alloc_past, *]) (fun hHeld => ?_)
      clear hK K
      try simp only [Act.put, sA, sB, sC]
      refine wpAnyH_ready (rs := [6]) (by kernel_rfl) (by simp) ?_
      refine AllReadyH.cons rfl (fun K hK => ?_) AllReadyH.nil
      go_simp
      go_wp2_with fail
      refine hK.out _ _ (by simp [go_sem, World.cell?_alloc_past, *]) (fun hHeld => ?_)
      clear hK K
      try simp only [Act.put, sA, sB, sC]
      refine wpAnyH_ready (rs := [7]) (by kernel_rfl) (by simp) ?_
      refine AllReadyH.cons rfl (fun K hK => ?_) AllReadyH.nil
      go_simp
      refine (cF2x _ _ F _ _ hF (by simp [go_sem]) (by simp [go_sem])).mono ?_
      rintro e w' ⟨rfl, rfl⟩
      go_wp2_with fail
      refine hK.out _ _ (by simp [go_sem, World.cell?_alloc_past, *]) (fun hHeld => ?_)
      clear hK K
      try simp only [Act.put, sA, sB, sC]
      refine tkH 8 ⟨some 3, _, _, _, _, _⟩ ?_ rfl ?_ (by assumption) ?_
      rotate_left
      · (intro w hSw; (try dsimp only at hSw); go_simp; all_goals with_reducible rfl)
      try simp only [Act.put, sA, sB, sC]
      refine wpAnyH_done (by kernel_rfl) ?_ _
      go_wp2
      go_ret
      exact ⟨ret_int HE.out, (by (repeat (first | (with_reducible refine Below.drew ?_) | (with_reducible refine below_drewN ?_ _) | (with_reducible refine Below.alloc ?_ (by first | omega | (simp; done) | (simp; omega) | (simp at *; omega)) _) | (with_reducible refine Below.setCell ?_ (by first | omega | (simp; done) | (simp; omega) | (simp at *; omega)) _) | (with_reducible exact Below.refl _ _) | (with_reducible assumption) | (with_reducible refine Below.trans ?_ (Below.mono (by assumption) (by first | omega | (simp; done) | (simp; omega) | (simp at *; omega)))))))⟩
    · rw [if_neg hc] at he
      have HE := Lib.hid he
      clear he hz
      go_enter Tryz.func81, Tryz.ntmps81
      go_upto_region 1 with (fail)
      refine wp_region_held_drew (S := (fun w' => w'.cell? ⟨w.heap.size, 0, none⟩ = some (.int .i64 a) ∧ w'.cell? ⟨w.heap.size, 1, none⟩ = some (.int .i64 b))) (by kernel_rfl) (by simp [go_sem, World.cell?_alloc_past, *]) (fun hHeld => ?_)
      refine tkH 0 ⟨some 4, _, _, _, _, _⟩ ?_ rfl ?_ (by assumption) ?_
      rotate_left
      · (intro w hSw; (try dsimp only at hSw); go_simp; all_goals with_reducible rfl)
      try simp only [Act.put, sA, sB, sC]
      refine tkH 1 ⟨some 5, _, _, _, _, _⟩ ?_ rfl ?_ (by assumption) ?_
      rotate_left
      · (intro w hSw; (try dsimp only at hSw); go_simp; all_goals with_reducible rfl)
      try simp only [Act.put, sA, sB, sC]
      refine tkH 3 ⟨some 7, _, _, _, _, _⟩ ?_ rfl ?_ (by assumption) ?_
      rotate_left
      · (intro w hSw; (try dsimp only at hSw); go_simp; all_goals with_reducible rfl)
      try simp only [Act.put, sA, sB, sC]
      refine tkH 4 ⟨some 8, _, _, _, _, _⟩ ?_ rfl ?_ (by assumption) ?_
      rotate_left
      · (intro w hSw; (try dsimp only at hSw); go_simp; all_goals with_reducible rfl)
      try simp only [Act.put, sA, sB, sC]
      refine wpAnyH_ready (rs := [2]) (by kernel_rfl) (by simp) ?_
      refine AllReadyH.cons rfl (fun K hK => ?_) AllReadyH.nil
      go_simp
      refine (checkMinute_any _ _).mono ?_
      rintro e w' ⟨rfl, rfl⟩
      go_wp2_with fail
      refine hK.out _ _ (by simp [go_sem, World.cell?_alloc_past, *]) (fun hHeld => ?_)
      clear hK K
      try simp only [Act.put, sA, sB, sC]
      refine wpAnyH_ready (rs := [5]) (by kernel_rfl) (by simp) ?_
      refine AllReadyH.cons rfl (fun K hK => ?_) AllReadyH.nil
      go_simp
      refine (checkMinute_any _ _).mono ?_
      rintro e w' ⟨rfl, rfl⟩
      go_wp2_with fail
      refine hK.out _ _ (by simp [go_sem, World.cell?_alloc_past, *]) (fun hHeld => ?_)
      clear hK K
      try simp only [Act.put, sA, sB, sC]
      refine wpAnyH_ready (rs := [6]) (by kernel_rfl) (by simp) ?_
      refine AllReadyH.cons rfl (fun K hK => ?_) AllReadyH.nil
      go_simp
      go_wp2_with fail
      refine hK.out _ _ (by simp [go_sem, World.cell?_alloc_past, *]) (fun hHeld => ?_)
      clear hK K
      try simp only [Act.put, sA, sB, sC]
      refine wpAnyH_ready (rs := [7]) (by kernel_rfl) (by simp) ?_
      refine AllReadyH.cons rfl (fun K hK => ?_) AllReadyH.nil
      go_simp
      refine (cF2x _ _ F _ _ hF (by simp [go_sem]) (by simp [go_sem])).mono ?_
      rintro e w' ⟨rfl, rfl⟩
      go_wp2_with fail
      refine hK.out _ _ (by simp [go_sem, World.cell?_alloc_past, *]) (fun hHeld => ?_)
      clear hK K
      try simp only [Act.put, sA, sB, sC]
      refine tkH 8 ⟨some 3, _, _, _, _, _⟩ ?_ rfl ?_ (by assumption) ?_
      rotate_left
      · (intro w hSw; (try dsimp only at hSw); go_simp; all_goals with_reducible rfl)
      try simp only [Act.put, sA, sB, sC]
      refine wpAnyH_done (by kernel_rfl) ?_ _
      go_wp2
      go_ret
      exact ⟨ret_int HE.out, (by (repeat (first | (with_reducible refine Below.drew ?_) | (with_reducible refine below_drewN ?_ _) | (with_reducible refine Below.alloc ?_ (by first | omega | (simp; done) | (simp; omega) | (simp at *; omega)) _) | (with_reducible refine Below.setCell ?_ (by first | omega | (simp; done) | (simp; omega) | (simp at *; omega)) _) | (with_reducible exact Below.refl _ _) | (with_reducible assumption) | (with_reducible refine Below.trans ?_ (Below.mono (by assumption) (by first | omega | (simp; done) | (simp; omega) | (simp at *; omega)))))))⟩
  · rw [if_neg hz.out] at he
    have HE := Lib.hid he
    clear he hz
    go_enter Tryz.func81, Tryz.ntmps81
    go_upto_region 1 with (fail)
    refine wp_region_held_drew (S := (fun w' => w'.cell? ⟨w.heap.size, 0, none⟩ = some (.int .i64 a) ∧ w'.cell? ⟨w.heap.size, 1, none⟩ = some (.int .i64 b))) (by kernel_rfl) (by simp [go_sem, World.cell?_alloc_past, *]) (fun hHeld => ?_)
    refine tkH 0 ⟨some 4, _, _, _, _, _⟩ ?_ rfl ?_ (by assumption) ?_
    rotate_left
    · (intro w hSw; (try dsimp only at hSw); go_simp; all_goals with_reducible rfl)
    try simp only [Act.put, sA, sB, sC]
    refine tkH 1 ⟨some 5, _, _, _, _, _⟩ ?_ rfl ?_ (by assumption) ?_
    rotate_left
    · (intro w hSw; (try dsimp only at hSw); go_simp; all_goals with_reducible rfl)
    try simp only [Act.put, sA, sB, sC]
    refine tkH 3 ⟨some 7, _, _, _, _, _⟩ ?_ rfl ?_ (by assumption) ?_
    rotate_left
    · (intro w hSw; (try dsimp only at hSw); go_simp; all_goals with_reducible rfl)
    try simp only [Act.put, sA, sB, sC]
    refine tkH 4 ⟨some 8, _, _, _, _, _⟩ ?_ rfl ?_ (by assumption) ?_
    rotate_left
    · (intro w hSw; (try dsimp only at hSw); go_simp; all_goals with_reducible rfl)
    try simp only [Act.put, sA, sB, sC]
    refine wpAnyH_ready (rs := [2]) (by kernel_rfl) (by simp) ?_
    refine AllReadyH.cons rfl (fun K hK => ?_) AllReadyH.nil
    go_simp
    refine (checkMinute_any _ _).mono ?_
    rintro e w' ⟨rfl, rfl⟩
    go_wp2_with fail
    refine hK.out _ _ (by simp [go_sem, World.cell?_alloc_past, *]) (fun hHeld => ?_)
    clear hK K
    try simp only [Act.put, sA, sB, sC]
    refine wpAnyH_ready (rs := [5]) (by kernel_rfl) (by simp) ?_
    refine AllReadyH.cons rfl (fun K hK => ?_) AllReadyH.nil
    go_simp
    refine (checkMinute_any _ _).mono ?_
    rintro e w' ⟨rfl, rfl⟩
    go_wp2_with fail
    refine hK.out _ _ (by simp [go_sem, World.cell?_alloc_past, *]) (fun hHeld => ?_)
    clear hK K
    try simp only [Act.put, sA, sB, sC]
    refine wpAnyH_ready (rs := [6]) (by kernel_rfl) (by simp) ?_
    refine AllReadyH.cons rfl (fun K hK => ?_) AllReadyH.nil
    go_simp
    go_wp2_with fail
    refine hK.out _ _ (by simp [go_sem, World.cell?_alloc_past, *]) (fun hHeld => ?_)
    clear hK K
    try simp only [Act.put, sA, sB, sC]
    refine wpAnyH_ready (rs := [7]) (by kernel_rfl) (by simp) ?_
    refine AllReadyH.cons rfl (fun K hK => ?_) AllReadyH.nil
    go_simp
    refine (cF2x _ _ F _ _ hF (by simp [go_sem]) (by simp [go_sem])).mono ?_
    rintro e w' ⟨rfl, rfl⟩
    go_wp2_with fail
    refine hK.out _ _ (by simp [go_sem, World.cell?_alloc_past, *]) (fun hHeld => ?_)
    clear hK K
    try simp only [Act.put, sA, sB, sC]
    refine tkH 8 ⟨some 3, _, _, _, _, _⟩ ?_ rfl ?_ (by assumption) ?_
    rotate_left
    · (intro w hSw; (try dsimp only at hSw); go_simp; all_goals with_reducible rfl)
    try simp only [Act.put, sA, sB, sC]
    refine wpAnyH_done (by kernel_rfl) ?_ _
    go_wp2
    go_ret
    exact ⟨ret_int HE.out, (by (repeat (first | (with_reducible refine Below.drew ?_) | (with_reducible refine below_drewN ?_ _) | (with_reducible refine Below.alloc ?_ (by first | omega | (simp; done) | (simp; omega) | (simp at *; omega)) _) | (with_reducible refine Below.setCell ?_ (by first | omega | (simp; done) | (simp; omega) | (simp at *; omega)) _) | (with_reducible exact Below.refl _ _) | (with_reducible assumption) | (with_reducible refine Below.trans ?_ (Below.mono (by assumption) (by first | omega | (simp; done) | (simp; omega) | (simp at *; omega)))))))⟩
set_option maxRecDepth 100000 in
set_option maxHeartbeats 2000000 in
theorem CheckWindows_is (L : List Rg) (A : Option Addr) (cap n : Nat) (E : Int) (w : World) (hn : Hid (n = L.length)) (hl : n ≤ 1000000) (hL : SlRows rgV 2 w A L) (hE : Hid (winE L = E)) :
    Calls Tryz.prog 31 #[.slice A n cap] w fun e w' => e = .returned (.int .i64 E) ∧ Below w.heap.size w w' := by
  have he := hE.out
  unfold winE at he
  rw [← hn.out] at he
  clear hE
  by_cases h60 : n ≤ 60
  · rw [if_pos h60] at he
    have HE := Lib.hid he
    have i0 : ¬ (60 : Int) < (n : Int) := by omega
    clear he h60
    have HR : Hid (∀ w' : World, Below w.heap.size w w' → SlRows rgV 2 w' A L) := Lib.hid fun w' hB => hL.below hB
    clear hL
    go_enter Tryz.func31, Tryz.ntmps31
    go_wp2
    go_loopw [11] (fun i wr => ∃ k : Nat, k ≤ n ∧ i = .int .i64 k ∧ Hid (fstW L k = 0) ∧ Below w.heap.size w wr) (fun i _ => n - (intOf i).toNat)
    case atStart => exact ⟨0, by omega, rfl, Lib.hid rfl, (by (repeat (first | (with_reducible refine Below.drew ?_) | (with_reducible refine below_drewN ?_ _) | (with_reducible refine Below.alloc ?_ (by first | omega | (simp; done) | (simp; omega) | (simp at *; omega)) _) | (with_reducible refine Below.setCell ?_ (by first | omega | (simp; done) | (simp; omega) | (simp at *; omega)) _) | (with_reducible exact Below.refl _ _) | (with_reducible assumption) | (with_reducible refine Below.trans ?_ (Below.mono (by assumption) (by first | omega | (simp; done) | (simp; omega) | (simp at *; omega)))))))⟩
    case round =>
      obtain ⟨k, hk, rfl, hz, hB⟩ := hrel
      have hsz := hB.size
      by_cases hkn : k < n
      · have hkl : k < L.length := by have := hn.out; omega
        have kn : (k : Int) < (n : Int) := by omega
        rcases HR.out _ hB with h0 | ⟨bl, off, rfl, hlt, hR⟩
        · rw [h0] at hkl; simp at hkl
        obtain ⟨c0, c1⟩ := rg_at hR hkl
        obtain ⟨⟨a, b⟩, hx⟩ : ∃ x, Hid (L.getD k default = x) := ⟨_, Lib.hid rfl⟩
        rw [hx.out] at c0 c1
        dsimp only at c0 c1
        obtain ⟨F, hF⟩ : ∃ F, Hid (endE ⟨a, b⟩ = F) := ⟨_, Lib.hid rfl⟩
        have o1 : bl ≠ wr.heap.size := by omega
        have o2 : wr.heap.size ≠ bl := by omega
        have o3 : bl < wr.heap.size + 1 := by omega
        rcases ez2 F with ⟨hz0, hzb⟩ | ⟨hz0, hzb⟩
        · have hcl := clsB_cases L k
          rw [hx.out] at hcl
          dsimp only at hcl
          rcases hcl with ⟨hk0, hc⟩ | ⟨hk0, hh, hc⟩ | ⟨hk0, hh, hc⟩
          · have hW : Hid (fstW L (k + 1) = 0) := Lib.hid (by rw [fstW, if_pos hz.out]; unfold winF; rw [hx.out, hF.out, if_pos hz0.out, hc]; simp)
            have j0 : decide ((0 : Int) < (k : Int)) = false := by simp; omega
            have j0n : decide (0 < k) = false := by simp; omega
            clear hk0
            clear hz hz0 hR hc
            go_wp2_with fail
            refine (checkEnds_is a b F _ hF).mono ?_
            rintro e w1 ⟨rfl, hb1⟩
            have z1 := hb1.size
            try simp at z1
            have s0 : w1.cell? ⟨wr.heap.size, 0, none⟩ = some (.int .i64 a) := by rw [(bcell hb1).1 _ _ (by simp)]; simp [go_sem]
            have hB1 : Below w.heap.size w w1 := (by (repeat (first | (with_reducible refine Below.drew ?_) | (with_reducible refine below_drewN ?_ _) | (with_reducible refine Below.alloc ?_ (by first | omega | (simp; done) | (simp; omega) | (simp at *; omega)) _) | (with_reducible refine Below.setCell ?_ (by first | omega | (simp; done) | (simp; omega) | (simp at *; omega)) _) | (with_reducible exact Below.refl _ _) | (with_reducible assumption) | (with_reducible refine Below.trans ?_ (Below.mono (by assumption) (by first | omega | (simp; done) | (simp; omega) | (simp at *; omega)))))))
            clear hb1
            go_wp2_with fail
            go_big_quiet (fail)
            go_wp2
            go_roundw
            case rel => exact ⟨k + 1, by omega, by go_num, hW, (by (repeat (first | (with_reducible refine Below.drew ?_) | (with_reducible refine below_drewN ?_ _) | (with_reducible refine Below.alloc ?_ (by first | omega | (simp; done) | (simp; omega) | (simp at *; omega)) _) | (with_reducible refine Below.setCell ?_ (by first | omega | (simp; done) | (simp; omega) | (simp at *; omega)) _) | (with_reducible exact Below.refl _ _) | (with_reducible assumption) | (with_reducible refine Below.trans ?_ (Below.mono (by assumption) (by first | omega | (simp; done) | (simp; omega) | (simp at *; omega)))))))⟩
            case measure => (simp [intOf]) <;> omega
          all_goals
            obtain ⟨c2, c3⟩ := rg_at hR (show k - 1 < L.length by omega)
            obtain ⟨⟨a2, b2⟩, hx2⟩ : ∃ x, Hid (L.getD (k - 1) default = x) := ⟨_, Lib.hid rfl⟩
            have hbd := fstW_hi hz.out (show k - 1 < k by omega)
            rw [hx2.out] at c2 c3 hh hbd
            dsimp only at c2 c3 hh hbd
            obtain ⟨hbd0, hbd1⟩ := hbd
            have j0 : decide ((0 : Int) < (k : Int)) = true := by simp; omega
            have j0n : decide (0 < k) = true := by simp; omega
            have j1 : IntKind.i64.wrap ((k : Int) - 1) = (k : Int) - 1 := IntWalk.i64_in _ (by omega)
            have j2 : (0 : Int) ≤ (k : Int) - 1 := by omega
            have j3 : ((k : Int) - 1).toNat = k - 1 := by omega
            have j4 : (k : Int) - 1 < (n : Int) := by omega
            have j5 : IntKind.i64.wrap (b2 + 1) = b2 + 1 := IntWalk.i64_in _ (by omega)
            have o4 : bl < wr.heap.size := by omega
          · have hr : Hid (E = 13) := Lib.hid (by
              have h1 : winF L k = 13 := by unfold winF; rw [hx.out, hF.out, if_pos hz0.out, hc]; simp
              rw [← HE.out, fstW_stop hz.out (by rw [h1]; omega) n hkn, h1])
            have j6 : decide (a ≤ b2 + 1) = true := by simpa using hh
            clear hz hz0 hR hc
            go_wp2_with fail
            refine (checkEnds_is a b F _ hF).mono ?_
            rintro e w1 ⟨rfl, hb1⟩
            have z1 := hb1.size
            try simp at z1
            have s0 : w1.cell? ⟨wr.heap.size, 0, none⟩ = some (.int .i64 a) := by rw [(bcell hb1).1 _ _ (by simp)]; simp [go_sem]
            have s2 : w1.cell? ⟨bl, off + (k - 1) * 2, none⟩ = some (.int .i64 a2) := by rw [(bcell hb1).1 _ _ (by simp; omega)]; simp [go_sem, World.cell?_alloc_past, *]
            have s3 : w1.cell? ⟨bl, off + (k - 1) * 2 + 1, none⟩ = some (.int .i64 b2) := by rw [(bcell hb1).1 _ _ (by simp; omega)]; simp [go_sem, World.cell?_alloc_past, *]
            have hB1 : Below w.heap.size w w1 := (by (repeat (first | (with_reducible refine Below.drew ?_) | (with_reducible refine below_drewN ?_ _) | (with_reducible refine Below.alloc ?_ (by first | omega | (simp; done) | (simp; omega) | (simp at *; omega)) _) | (with_reducible refine Below.setCell ?_ (by first | omega | (simp; done) | (simp; omega) | (simp at *; omega)) _) | (with_reducible exact Below.refl _ _) | (with_reducible assumption) | (with_reducible refine Below.trans ?_ (Below.mono (by assumption) (by first | omega | (simp; done) | (simp; omega) | (simp at *; omega)))))))
            clear hb1
            go_wp2_with fail
            go_big_quiet (fail)
            go_wp2
            go_ret
            exact ⟨ret_int hr.out.symm, (by (repeat (first | (with_reducible refine Below.drew ?_) | (with_reducible refine below_drewN ?_ _) | (with_reducible refine Below.alloc ?_ (by first | omega | (simp; done) | (simp; omega) | (simp at *; omega)) _) | (with_reducible refine Below.setCell ?_ (by first | omega | (simp; done) | (simp; omega) | (simp at *; omega)) _) | (with_reducible exact Below.refl _ _) | (with_reducible assumption) | (with_reducible refine Below.trans ?_ (Below.mono (by assumption) (by first | omega | (simp; done) | (simp; omega) | (simp at *; omega)))))))⟩
          · have hW : Hid (fstW L (k + 1) = 0) := Lib.hid (by rw [fstW, if_pos hz.out]; unfold winF; rw [hx.out, hF.out, if_pos hz0.out, hc]; simp)
            have j6 : decide (a ≤ b2 + 1) = false := by simpa using hh
            clear hz hz0 hR hc
            go_wp2_with fail
            refine (checkEnds_is a b F _ hF).mono ?_
            rintro e w1 ⟨rfl, hb1⟩
            have z1 := hb1.size
            try simp at z1
            have s0 : w1.cell? ⟨wr.heap.size, 0, none⟩ = some (.int .i64 a) := by rw [(bcell hb1).1 _ _ (by simp)]; simp [go_sem]
            have s2 : w1.cell? ⟨bl, off + (k - 1) * 2, none⟩ = some (.int .i64 a2) := by rw [(bcell hb1).1 _ _ (by simp; omega)]; simp [go_sem, World.cell?_alloc_past, *]
            have s3 : w1.cell? ⟨bl, off + (k - 1) * 2 + 1, none⟩ = some (.int .i64 b2) := by rw [(bcell hb1).1 _ _ (by simp; omega)]; simp [go_sem, World.cell?_alloc_past, *]
            have hB1 : Below w.heap.size w w1 := (by (repeat (first | (with_reducible refine Below.drew ?_) | (with_reducible refine below_drewN ?_ _) | (with_reducible refine Below.alloc ?_ (by first | omega | (simp; done) | (simp; omega) | (simp at *; omega)) _) | (with_reducible refine Below.setCell ?_ (by first | omega | (simp; done) | (simp; omega) | (simp at *; omega)) _) | (with_reducible exact Below.refl _ _) | (with_reducible assumption) | (with_reducible refine Below.trans ?_ (Below.mono (by assumption) (by first | omega | (simp; done) | (simp; omega) | (simp at *; omega)))))))
            clear hb1
            go_wp2_with fail
            go_big_quiet (fail)
            go_wp2
            go_roundw
            case rel => exact ⟨k + 1, by omega, by go_num, hW, (by (repeat (first | (with_reducible refine Below.drew ?_) | (with_reducible refine below_drewN ?_ _) | (with_reducible refine Below.alloc ?_ (by first | omega | (simp; done) | (simp; omega) | (simp at *; omega)) _) | (with_reducible refine Below.setCell ?_ (by first | omega | (simp; done) | (simp; omega) | (simp at *; omega)) _) | (with_reducible exact Below.refl _ _) | (with_reducible assumption) | (with_reducible refine Below.trans ?_ (Below.mono (by assumption) (by first | omega | (simp; done) | (simp; omega) | (simp at *; omega)))))))⟩
            case measure => (simp [intOf]) <;> omega
        · have hr : Hid (E = F) := Lib.hid (by
            have h1 : winF L k = F := by unfold winF; rw [hx.out, hF.out, if_neg hz0.out]
            rw [← HE.out, fstW_stop hz.out (by rw [h1]; exact hz0.out) n hkn, h1])
          clear hz hz0 hR
          go_wp2_with ((go_at_call 81; ((with_reducible refine (checkEnds_is a b F _ hF).mono ?_)); rintro e w1 ⟨rfl, hbw⟩; obtain ⟨hbc, hbf⟩ := bcell hbw; have hbs := hbw.size))
          go_ret
          exact ⟨ret_int hr.out.symm, (by (repeat (first | (with_reducible refine Below.drew ?_) | (with_reducible refine below_drewN ?_ _) | (with_reducible refine Below.alloc ?_ (by first | omega | (simp; done) | (simp; omega) | (simp at *; omega)) _) | (with_reducible refine Below.setCell ?_ (by first | omega | (simp; done) | (simp; omega) | (simp at *; omega)) _) | (with_reducible exact Below.refl _ _) | (with_reducible assumption) | (with_reducible refine Below.trans ?_ (Below.mono (by assumption) (by first | omega | (simp; done) | (simp; omega) | (simp at *; omega)))))))⟩
      · have hkk : k = n := by omega
        have hr : Hid (E = 0) := Lib.hid (by rw [← HE.out, ← hkk]; exact hz.out)
        clear hz hkk
        go_wp2
        go_ret
        exact ⟨ret_int hr.out.symm, (by (repeat (first | (with_reducible refine Below.drew ?_) | (with_reducible refine below_drewN ?_ _) | (with_reducible refine Below.alloc ?_ (by first | omega | (simp; done) | (simp; omega) | (simp at *; omega)) _) | (with_reducible refine Below.setCell ?_ (by first | omega | (simp; done) | (simp; omega) | (simp at *; omega)) _) | (with_reducible exact Below.refl _ _) | (with_reducible assumption) | (with_reducible refine Below.trans ?_ (Below.mono (by assumption) (by first | omega | (simp; done) | (simp; omega) | (simp at *; omega)))))))⟩
  · rw [if_neg h60] at he
    have HE := Lib.hid he
    have i0 : (60 : Int) < (n : Int) := by omega
    clear he
    go_enter Tryz.func31, Tryz.ntmps31
    go_wp2
    go_ret
    exact ⟨ret_int HE.out, (by (repeat (first | (with_reducible refine Below.drew ?_) | (with_reducible refine below_drewN ?_ _) | (with_reducible refine Below.alloc ?_ (by first | omega | (simp; done) | (simp; omega) | (simp at *; omega)) _) | (with_reducible refine Below.setCell ?_ (by first | omega | (simp; done) | (simp; omega) | (simp at *; omega)) _) | (with_reducible exact Below.refl _ _) | (with_reducible assumption) | (with_reducible refine Below.trans ?_ (Below.mono (by assumption) (by first | omega | (simp; done) | (simp; omega) | (simp at *; omega)))))))⟩
end Go.Proofs.YtojaompfffpofaaGreat
