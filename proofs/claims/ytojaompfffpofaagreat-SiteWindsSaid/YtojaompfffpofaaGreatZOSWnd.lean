import Derived.Test.YtojaompfffpofaaGreatZOSSlk
import Derived.Test.YtojaompfffpofaaGreatZOSCat
import Derived.Outline
import Derived.BigQuiet
namespace Go.Proofs.YtojaompfffpofaaGreat
open Go.ChangeShapes Go.WideShapes Go.ChangeAt Go.RowKit
set_option linter.unusedVariables false
set_option linter.unusedSimpArgs false
attribute [local go_sem ↓] Go.wp_at_zero Go.wp_at_succ
/-- A wind: from when on, its sector, its force. -/
structure Wi where
  f : Int
  s : Int
  o : Int
instance : Inhabited Wi := ⟨⟨0, 0, 0⟩⟩
def wiV (x : Wi) : List Value := [.int .i64 x.f, .int .i64 x.s, .int .i64 x.o]
def wnE (x : Wi) : Int := firE [rngE x.f 0 1000000, rngE x.s 0 7, rngE x.o 0 200]
def ordB (L : List Wi) (k : Nat) : Bool := decide (0 < k) && decide ((L.getD k default).f ≤ (L.getD (k - 1) default).f)
def wndF (L : List Wi) (k : Nat) : Int := if wnE (L.getD k default) = 0 then (if ordB L k = true then 9 else 0) else wnE (L.getD k default)
def fstD (L : List Wi) : Nat → Int
  | 0 => 0
  | k + 1 => if fstD L k = 0 then wndF L k else fstD L k
def wndE (L : List Wi) : Int := if L.length = 0 then 10 else if L.length ≤ 60 then fstD L L.length else 8
theorem fstD_stop {L : List Wi} {k : Nat} (hz : fstD L k = 0) (hn : wndF L k ≠ 0) : ∀ n, k < n → fstD L n = wndF L k
  | 0, h => by omega
  | n + 1, h => by
    by_cases e : n = k
    · subst e; rw [fstD, if_pos hz]
    · rw [fstD, fstD_stop hz hn n (by omega), if_neg hn]
theorem fstD_all {L : List Wi} : ∀ {k : Nat}, fstD L k = 0 → ∀ j, j < k → wndF L j = 0
  | 0, _, j, hj => by omega
  | k + 1, h, j, hj => by
    rw [fstD] at h
    by_cases h0 : fstD L k = 0
    · rw [if_pos h0] at h
      by_cases e : j = k
      · rw [e]; exact h
      · exact fstD_all h0 j (by omega)
    · rw [if_neg h0] at h; exact absurd h h0
theorem ordB_cases (L : List Wi) (k : Nat) : (k = 0 ∧ ordB L k = false) ∨ (0 < k ∧ (L.getD k default).f ≤ (L.getD (k - 1) default).f ∧ ordB L k = true) ∨ (0 < k ∧ ¬ (L.getD k default).f ≤ (L.getD (k - 1) default).f ∧ ordB L k = false) := by
  unfold ordB
  by_cases h0 : 0 < k
  · by_cases h1 : (L.getD k default).f ≤ (L.getD (k - 1) default).f
    · right; left; exact ⟨h0, h1, by rw [decide_eq_true h0, decide_eq_true h1]; rfl⟩
    · right; right; exact ⟨h0, h1, by rw [decide_eq_true h0, decide_eq_false h1]; rfl⟩
  · left; exact ⟨by omega, by rw [decide_eq_false h0]; rfl⟩
theorem firE3w {a b c : Int} (h : firE [a, b, c] = 0) : a = 0 ∧ b = 0 ∧ c = 0 := by
  unfold firE firE firE firE at h
  by_cases ha : a = 0
  · by_cases hb : b = 0
    · by_cases hc : c = 0
      · exact ⟨ha, hb, hc⟩
      · rw [if_pos ha, if_pos hb, if_neg hc] at h; exact absurd h hc
    · rw [if_pos ha, if_neg hb] at h; exact absurd h hb
  · rw [if_neg ha] at h; exact absurd h ha
/-- What is so of a right forecast. -/
theorem wndE_ok {L : List Wi} (h : wndE L = 0) : 0 < L.length ∧ L.length ≤ 60 ∧ (∀ k, k < L.length → (0 ≤ (L.getD k default).f ∧ (L.getD k default).f ≤ 1000000) ∧ (0 ≤ (L.getD k default).s ∧ (L.getD k default).s ≤ 7) ∧ 0 ≤ (L.getD k default).o ∧ (L.getD k default).o ≤ 200) ∧ (∀ k, k + 1 < L.length → (L.getD k default).f < (L.getD (k + 1) default).f) := by
  unfold wndE at h
  by_cases h0 : L.length = 0
  · rw [if_pos h0] at h; omega
  · rw [if_neg h0] at h
    by_cases h1 : L.length ≤ 60
    · rw [if_pos h1] at h
      refine ⟨by omega, h1, fun k hk => ?_, fun k hk => ?_⟩
      · have := fstD_all h k hk
        unfold wndF at this
        by_cases h2 : wnE (L.getD k default) = 0
        · obtain ⟨a, b, c⟩ := firE3w h2
          exact ⟨rngE_0 a, rngE_0 b, rngE_0 c⟩
        · rw [if_neg h2] at this; exact absurd this h2
      · have := fstD_all h (k + 1) hk
        unfold wndF at this
        by_cases h2 : wnE (L.getD (k + 1) default) = 0
        · rw [if_pos h2] at this
          rcases ordB_cases L (k + 1) with ⟨h3, _⟩ | ⟨_, _, h3⟩ | ⟨_, h3, _⟩
          · omega
          · rw [h3] at this; simp at this
          · rw [Nat.add_sub_cancel] at h3; omega
        · rw [if_neg h2] at this; exact absurd this h2
    · rw [if_neg h1] at h; omega
theorem wi_at {w : World} {b off : Nat} {L : List Wi} (h : RowsAt wiV 3 w b off L) {k : Nat} (hk : k < L.length) : w.cell? ⟨b, off + k * 3, none⟩ = some (.int .i64 (L.getD k default).f) ∧ w.cell? ⟨b, off + k * 3 + 1, none⟩ = some (.int .i64 (L.getD k default).s) ∧ w.cell? ⟨b, off + k * 3 + 2, none⟩ = some (.int .i64 (L.getD k default).o) := by
  have e : L.getD k default = L[k] := by rw [List.getD_eq_getElem?_getD, List.getElem?_eq_getElem hk]; rfl
  rw [e]
  exact ⟨h k hk 0 (by omega), h k hk 1 (by omega), h k hk 2 (by omega)⟩
theorem checkForce_is (n : Int) (w : World) :
    Calls Tryz.prog 85 #[.int .i64 n] w fun e w' => e = .returned (.int .i64 (rngE n 0 200)) ∧ w = w' := by
  go_enter Tryz.func85, Tryz.ntmps85
  go_wp2_with ((go_at_call 87; ((with_reducible refine (cRange_any _ _ _ _).mono ?_)); rintro e w' ⟨rfl, rfl⟩))
  go_ret
  exact ⟨rfl, rfl⟩
structure WnS (p q r : Int) (V : World) (X : World) : Prop where
  c0 : X.cell? ⟨V.heap.size, 0, none⟩ = some (.int .i64 p)
  c1 : X.cell? ⟨V.heap.size, 1, none⟩ = some (.int .i64 q)
  c2 : X.cell? ⟨V.heap.size, 2, none⟩ = some (.int .i64 r)
  be : Below V.heap.size V X
  lt : V.heap.size < X.heap.size
set_option maxRecDepth 100000 in
set_option maxHeartbeats 2000000 in
theorem CheckWinds_is (L : List Wi) (A : Option Addr) (cap n : Nat) (E : Int) (w : World) (hn : Hid (n = L.length)) (hl : n ≤ 1000000) (hL : SlRows wiV 3 w A L) (hE : Hid (wndE L = E)) :
    Calls Tryz.prog 37 #[.slice A n cap] w fun e w' => e = .returned (.int .i64 E) ∧ Below w.heap.size w w' := by
  have he := hE.out
  unfold wndE at he
  rw [← hn.out] at he
  clear hE
  by_cases h0 : n = 0
  · rw [if_pos h0] at he
    have HE := Lib.hid he
    have i0 : (n : Int) = 0 := by omega
    have i1 : ((n : Int) == 0) = true := by simp [i0]
    subst h0
    clear he
    go_enter Tryz.func37, Tryz.ntmps37
    go_wp2
    go_ret
    exact ⟨ret_int HE.out, (by (repeat (first | (with_reducible refine Below.drew ?_) | (with_reducible refine below_drewN ?_ _) | (with_reducible refine Below.alloc ?_ (by first | omega | (simp; done) | (simp; omega) | (simp at *; omega)) _) | (with_reducible refine Below.setCell ?_ (by first | omega | (simp; done) | (simp; omega) | (simp at *; omega)) _) | (with_reducible exact Below.refl _ _) | (with_reducible assumption) | (with_reducible refine Below.trans ?_ (Below.mono (by assumption) (by first | omega | (simp; done) | (simp; omega) | (simp at *; omega)))))))⟩
  rw [if_neg h0] at he
  have i9 : ¬ (n : Int) = 0 := by omega
  have i8 : ((n : Int) == 0) = false := by simpa using i9
  by_cases h60 : n ≤ 60
  · rw [if_pos h60] at he
    have HE := Lib.hid he
    have i0 : ¬ (60 : Int) < (n : Int) := by omega
    clear he h60
    have HR : Hid (∀ w' : World, Below w.heap.size w w' → SlRows wiV 3 w' A L) := Lib.hid fun w' hB => hL.below hB
    clear hL
    go_enter Tryz.func37, Tryz.ntmps37
    go_wp2
    go_loopw [14] (fun i wr => ∃ k : Nat, k ≤ n ∧ i = .int .i64 k ∧ Hid (fstD L k = 0) ∧ Below w.heap.size w wr) (fun i _ => n - (intOf i).toNat)
    case atStart => exact ⟨0, by omega, rfl, Lib.hid rfl, (by (repeat (first | (with_reducible refine Below.drew ?_) | (with_reducible refine below_drewN ?_ _) | (with_reducible refine Below.alloc ?_ (by first | omega | (simp; done) | (simp; omega) | (simp at *; omega)) _) | (with_reducible refine Below.setCell ?_ (by first | omega | (simp; done) | (simp; omega) | (simp at *; omega)) _) | (with_reducible exact Below.refl _ _) | (with_reducible assumption) | (with_reducible refine Below.trans ?_ (Below.mono (by assumption) (by first | omega | (simp; done) | (simp; omega) | (simp at *; omega)))))))⟩
    case round =>
      obtain ⟨k, hk, rfl, hz, hB⟩ := hrel
      have hsz := hB.size
      by_cases hkn : k < n
      · have hkl : k < L.length := by have := hn.out; omega
        have kn : (k : Int) < (n : Int) := by omega
        rcases HR.out _ hB with h1 | ⟨bl, off, rfl, hlt, hR⟩
        · rw [h1] at hkl; simp at hkl
        obtain ⟨d0, d1, d2⟩ := wi_at hR hkl
        obtain ⟨⟨p, q, r⟩, hx⟩ : ∃ x, Hid (L.getD k default = x) := ⟨_, Lib.hid rfl⟩
        rw [hx.out] at d0 d1 d2
        dsimp only at d0 d1 d2
        obtain ⟨F, hF0⟩ : ∃ F, Hid (wnE ⟨p, q, r⟩ = F) := ⟨_, Lib.hid rfl⟩
        have hF : Hid (firE [rngE p 0 1000000, rngE q 0 7, rngE r 0 200] = F) := Lib.hid hF0.out
        have o1 : bl ≠ wr.heap.size := by omega
        have o2 : wr.heap.size ≠ bl := by omega
        have o3 : bl < wr.heap.size + 1 := by omega
        have HRR : Hid (∀ j, j < L.length → ∀ X : World, Below wr.heap.size wr X → X.cell? ⟨bl, off + j * 3, none⟩ = some (.int .i64 (L.getD j default).f)) := Lib.hid fun j hj X hX => (hX.cell (p := ⟨bl, off + j * 3, none⟩) hlt).trans (wi_at hR hj).1
        clear hR
        rcases ez2 F with ⟨hz0, hzb⟩ | ⟨hz0, hzb⟩
        · have hcl := ordB_cases L k
          rw [hx.out] at hcl
          dsimp only at hcl
          rcases hcl with ⟨hk0, hc⟩ | ⟨hk0, hh, hc⟩ | ⟨hk0, hh, hc⟩
          · have hW : Hid (fstD L (k + 1) = 0) := Lib.hid (by rw [fstD, if_pos hz.out]; unfold wndF; rw [hx.out, hF0.out, if_pos hz0.out, hc]; simp)
            have j0 : decide ((0 : Int) < (k : Int)) = false := by simp; omega
            have j0n : decide (0 < k) = false := by simp; omega
            clear hk0 hz hz0 hc
            go_upto_region 8 with (fail)
            refine wp_world (WnS p q r wr) ⟨by simp [go_sem], by simp [go_sem], by simp [go_sem], (by (repeat (first | (with_reducible refine Below.drew ?_) | (with_reducible refine below_drewN ?_ _) | (with_reducible refine Below.alloc ?_ (by first | omega | (simp; done) | (simp; omega) | (simp at *; omega)) _) | (with_reducible refine Below.setCell ?_ (by first | omega | (simp; done) | (simp; omega) | (simp at *; omega)) _) | (with_reducible exact Below.refl _ _) | (with_reducible assumption) | (with_reducible refine Below.trans ?_ (Below.mono (by assumption) (by first | omega | (simp; done) | (simp; omega) | (simp at *; omega))))))), by simp⟩ (fun u hu => ?_)
            obtain ⟨c0, c1, c2, hbu, hlu⟩ := hu
            have nu : u.heap.size ≠ wr.heap.size := by omega
            have nu2 : wr.heap.size ≠ u.heap.size := by omega
            refine wp_region_held_drew (S := (fun w' => w'.cell? ⟨wr.heap.size, 0, none⟩ = some (.int .i64 p) ∧ w'.cell? ⟨wr.heap.size, 1, none⟩ = some (.int .i64 q) ∧ w'.cell? ⟨wr.heap.size, 2, none⟩ = some (.int .i64 r))) (by kernel_rfl) (by simp [go_sem, World.cell?_alloc_past, *]) (fun hHeld => ?_)
            refine tkH 0 ⟨some 19, _, _, _, _, _⟩ ?_ rfl ?_ (by assumption) ?_
            rotate_left
            · (intro w hSw; (try dsimp only at hSw); go_simp; all_goals with_reducible rfl)
            try simp only [Act.put, sA, sB, sC]
            refine tkH 1 ⟨some 20, _, _, _, _, _⟩ ?_ rfl ?_ (by assumption) ?_
            rotate_left
            · (intro w hSw; (try dsimp only at hSw); go_simp; all_goals with_reducible rfl)
            try simp only [Act.put, sA, sB, sC]
            refine tkH 3 ⟨some 22, _, _, _, _, _⟩ ?_ rfl ?_ (by assumption) ?_
            rotate_left
            · (intro w hSw; (try dsimp only at hSw); go_simp; all_goals with_reducible rfl)
            try simp only [Act.put, sA, sB, sC]
            refine tkH 4 ⟨some 23, _, _, _, _, _⟩ ?_ rfl ?_ (by assumption) ?_
            rotate_left
            · (intro w hSw; (try dsimp only at hSw); go_simp; all_goals with_reducible rfl)
            try simp only [Act.put, sA, sB, sC]
            refine tkH 6 ⟨some 25, _, _, _, _, _⟩ ?_ rfl ?_ (by assumption) ?_
            rotate_left
            · (intro w hSw; (try dsimp only at hSw); go_simp; all_goals with_reducible rfl)
            try simp only [Act.put, sA, sB, sC]
            refine tkH 7 ⟨some 26, _, _, _, _, _⟩ ?_ rfl ?_ (by assumption) ?_
            rotate_left
            · (intro w hSw; (try dsimp only at hSw); go_simp; all_goals with_reducible rfl)
            try simp only [Act.put, sA, sB, sC]
            refine wpAnyH_ready (rs := [2]) (by kernel_rfl) (by simp) ?_
            refine AllReadyH.cons rfl (fun K hK => ?_) AllReadyH.nil
            go_simp
            refine (checkMinute_any _ _).mono ?_
            rintro e w' ⟨rfl, rfl⟩
            go_wp2_with fail
            refine hK.out _ _ (by simp [go_sem, World.cell?_alloc_past, *]) (fun hHeld => ?_)
            clear hK K
            try simp only [Act.put, sA, sB, sC]
            refine wpAnyH_ready (rs := [5]) (by kernel_rfl) (by simp) ?_
            refine AllReadyH.cons rfl (fun K hK => ?_) AllReadyH.nil
            go_simp
            refine (cRange_any _ _ _ _).mono ?_
            rintro e w' ⟨rfl, rfl⟩
            go_wp2_with fail
            refine hK.out _ _ (by simp [go_sem, World.cell?_alloc_past, *]) (fun hHeld => ?_)
            clear hK K
            try simp only [Act.put, sA, sB, sC]
            refine wpAnyH_ready (rs := [8]) (by kernel_rfl) (by simp) ?_
            refine AllReadyH.cons rfl (fun K hK => ?_) AllReadyH.nil
            go_simp
            refine (checkForce_is _ _).mono ?_
            rintro e w' ⟨rfl, rfl⟩
            go_wp2_with fail
            refine hK.out _ _ (by simp [go_sem, World.cell?_alloc_past, *]) (fun hHeld => ?_)
            clear hK K
            try simp only [Act.put, sA, sB, sC]
            refine wpAnyH_ready (rs := [9]) (by kernel_rfl) (by simp) ?_
            refine AllReadyH.cons rfl (fun K hK => ?_) AllReadyH.nil
            go_simp
            go_wp2_with fail
            refine hK.out _ _ (by simp [go_sem, World.cell?_alloc_past, *]) (fun hHeld => ?_)
            clear hK K
            try simp only [Act.put, sA, sB, sC]
            refine wpAnyH_ready (rs := [10]) (by kernel_rfl) (by simp) ?_
            refine AllReadyH.cons rfl (fun K hK => ?_) AllReadyH.nil
            go_simp
            refine (cF3y (rngE p 0 1000000) (rngE q 0 7) (rngE r 0 200) F _ _ hF (by simp [go_sem]) (by simp [go_sem]) (by simp [go_sem])).mono ?_
            rintro e w' ⟨rfl, rfl⟩
            go_wp2_with fail
            refine hK.out _ _ (by simp [go_sem, World.cell?_alloc_past, *]) (fun hHeld => ?_)
            clear hK K
            try simp only [Act.put, sA, sB, sC]
            refine tkH 11 ⟨some 5, _, _, _, _, _⟩ ?_ rfl ?_ (by assumption) ?_
            rotate_left
            · (intro w hSw; (try dsimp only at hSw); go_simp; all_goals with_reducible rfl)
            try simp only [Act.put, sA, sB, sC]
            refine wpAnyH_done (by kernel_rfl) ?_ _
            go_wp2_with fail
            go_big_quiet (fail)
            go_wp2
            go_roundw
            case rel => exact ⟨k + 1, by omega, by go_num, hW, (by (repeat (first | (with_reducible refine Below.drew ?_) | (with_reducible refine below_drewN ?_ _) | (with_reducible refine Below.alloc ?_ (by first | omega | (simp; done) | (simp; omega) | (simp at *; omega)) _) | (with_reducible refine Below.setCell ?_ (by first | omega | (simp; done) | (simp; omega) | (simp at *; omega)) _) | (with_reducible exact Below.refl _ _) | (with_reducible assumption) | (with_reducible refine Below.trans ?_ (Below.mono (by assumption) (by first | omega | (simp; done) | (simp; omega) | (simp at *; omega)))))))⟩
            case measure => (simp [intOf]) <;> omega
          all_goals
            obtain ⟨p2, hx2⟩ : ∃ x, Hid ((L.getD (k - 1) default).f = x) := ⟨_, Lib.hid rfl⟩
            rw [hx2.out] at hh
            have hP : Hid (∀ X : World, Below wr.heap.size wr X → X.cell? ⟨bl, off + (k - 1) * 3, none⟩ = some (.int .i64 p2)) := Lib.hid fun X hX => by rw [← hx2.out]; exact HRR.out (k - 1) (by omega) X hX
            have j0 : decide ((0 : Int) < (k : Int)) = true := by simp; omega
            have j0n : decide (0 < k) = true := by simp; omega
            have j1 : IntKind.i64.wrap ((k : Int) - 1) = (k : Int) - 1 := IntWalk.i64_in _ (by omega)
            have j2 : (0 : Int) ≤ (k : Int) - 1 := by omega
            have j3 : ((k : Int) - 1).toNat = k - 1 := by omega
            have j4 : (k : Int) - 1 < (n : Int) := by omega
          · have hr : Hid (E = 9) := Lib.hid (by
              have h1 : wndF L k = 9 := by unfold wndF; rw [hx.out, hF0.out, if_pos hz0.out, hc]; simp
              rw [← HE.out, fstD_stop hz.out (by rw [h1]; omega) n hkn, h1])
            have j6 : decide (p ≤ p2) = true := by simpa using hh
            clear hz hz0 hc
            go_upto_region 8 with (fail)
            refine wp_world (WnS p q r wr) ⟨by simp [go_sem], by simp [go_sem], by simp [go_sem], (by (repeat (first | (with_reducible refine Below.drew ?_) | (with_reducible refine below_drewN ?_ _) | (with_reducible refine Below.alloc ?_ (by first | omega | (simp; done) | (simp; omega) | (simp at *; omega)) _) | (with_reducible refine Below.setCell ?_ (by first | omega | (simp; done) | (simp; omega) | (simp at *; omega)) _) | (with_reducible exact Below.refl _ _) | (with_reducible assumption) | (with_reducible refine Below.trans ?_ (Below.mono (by assumption) (by first | omega | (simp; done) | (simp; omega) | (simp at *; omega))))))), by simp⟩ (fun u hu => ?_)
            obtain ⟨c0, c1, c2, hbu, hlu⟩ := hu
            have nu : u.heap.size ≠ wr.heap.size := by omega
            have nu2 : wr.heap.size ≠ u.heap.size := by omega
            refine wp_region_held_drew (S := (fun w' => w'.cell? ⟨wr.heap.size, 0, none⟩ = some (.int .i64 p) ∧ w'.cell? ⟨wr.heap.size, 1, none⟩ = some (.int .i64 q) ∧ w'.cell? ⟨wr.heap.size, 2, none⟩ = some (.int .i64 r))) (by kernel_rfl) (by simp [go_sem, World.cell?_alloc_past, *]) (fun hHeld => ?_)
            refine tkH 0 ⟨some 19, _, _, _, _, _⟩ ?_ rfl ?_ (by assumption) ?_
            rotate_left
            · (intro w hSw; (try dsimp only at hSw); go_simp; all_goals with_reducible rfl)
            try simp only [Act.put, sA, sB, sC]
            refine tkH 1 ⟨some 20, _, _, _, _, _⟩ ?_ rfl ?_ (by assumption) ?_
            rotate_left
            · (intro w hSw; (try dsimp only at hSw); go_simp; all_goals with_reducible rfl)
            try simp only [Act.put, sA, sB, sC]
            refine tkH 3 ⟨some 22, _, _, _, _, _⟩ ?_ rfl ?_ (by assumption) ?_
            rotate_left
            · (intro w hSw; (try dsimp only at hSw); go_simp; all_goals with_reducible rfl)
            try simp only [Act.put, sA, sB, sC]
            refine tkH 4 ⟨some 23, _, _, _, _, _⟩ ?_ rfl ?_ (by assumption) ?_
            rotate_left
            · (intro w hSw; (try dsimp only at hSw); go_simp; all_goals with_reducible rfl)
            try simp only [Act.put, sA, sB, sC]
            refine tkH 6 ⟨some 25, _, _, _, _, _⟩ ?_ rfl ?_ (by assumption) ?_
            rotate_left
            · (intro w hSw; (try dsimp only at hSw); go_simp; all_goals with_reducible rfl)
            try simp only [Act.put, sA, sB, sC]
            refine tkH 7 ⟨some 26, _, _, _, _, _⟩ ?_ rfl ?_ (by assumption) ?_
            rotate_left
            · (intro w hSw; (try dsimp only at hSw); go_simp; all_goals with_reducible rfl)
            try simp only [Act.put, sA, sB, sC]
            refine wpAnyH_ready (rs := [2]) (by kernel_rfl) (by simp) ?_
            refine AllReadyH.cons rfl (fun K hK => ?_) AllReadyH.nil
            go_simp
            refine (checkMinute_any _ _).mono ?_
            rintro e w' ⟨rfl, rfl⟩
            go_wp2_with fail
            refine hK.out _ _ (by simp [go_sem, World.cell?_alloc_past, *]) (fun hHeld => ?_)
            clear hK K
            try simp only [Act.put, sA, sB, sC]
            refine wpAnyH_ready (rs := [5]) (by kernel_rfl) (by simp) ?_
            refine AllReadyH.cons rfl (fun K hK => ?_) AllReadyH.nil
            go_simp
            refine (cRange_any _ _ _ _).mono ?_
            rintro e w' ⟨rfl, rfl⟩
            go_wp2_with fail
            refine hK.out _ _ (by simp [go_sem, World.cell?_alloc_past, *]) (fun hHeld => ?_)
            clear hK K
            try simp only [Act.put, sA, sB, sC]
            refine wpAnyH_ready (rs := [8]) (by kernel_rfl) (by simp) ?_
            refine AllReadyH.cons rfl (fun K hK => ?_) AllReadyH.nil
            go_simp
            refine (checkForce_is _ _).mono ?_
            rintro e w' ⟨rfl, rfl⟩
            go_wp2_with fail
            refine hK.out _ _ (by simp [go_sem, World.cell?_alloc_past, *]) (fun hHeld => ?_)
            clear hK K
            try simp only [Act.put, sA, sB, sC]
            refine wpAnyH_ready (rs := [9]) (by kernel_rfl) (by simp) ?_
            refine AllReadyH.cons rfl (fun K hK => ?_) AllReadyH.nil
            go_simp
            go_wp2_with fail
            refine hK.out _ _ (by simp [go_sem, World.cell?_alloc_past, *]) (fun hHeld => ?_)
            clear hK K
            try simp only [Act.put, sA, sB, sC]
            refine wpAnyH_ready (rs := [10]) (by kernel_rfl) (by simp) ?_
            refine AllReadyH.cons rfl (fun K hK => ?_) AllReadyH.nil
            go_simp
            refine (cF3y (rngE p 0 1000000) (rngE q 0 7) (rngE r 0 200) F _ _ hF (by simp [go_sem]) (by simp [go_sem]) (by simp [go_sem])).mono ?_
            rintro e w' ⟨rfl, rfl⟩
            go_wp2_with fail
            refine hK.out _ _ (by simp [go_sem, World.cell?_alloc_past, *]) (fun hHeld => ?_)
            clear hK K
            try simp only [Act.put, sA, sB, sC]
            refine tkH 11 ⟨some 5, _, _, _, _, _⟩ ?_ rfl ?_ (by assumption) ?_
            rotate_left
            · (intro w hSw; (try dsimp only at hSw); go_simp; all_goals with_reducible rfl)
            try simp only [Act.put, sA, sB, sC]
            refine wpAnyH_done (by kernel_rfl) ?_ _
            have e2 := hP.out u hbu
            have o4 : bl ≠ u.heap.size := by omega
            have o5 : u.heap.size ≠ bl := by omega
            have o6 : bl < u.heap.size := by omega
            go_wp2_with fail
            go_big_quiet (fail)
            go_wp2
            go_ret
            exact ⟨ret_int hr.out.symm, (by (repeat (first | (with_reducible refine Below.drew ?_) | (with_reducible refine below_drewN ?_ _) | (with_reducible refine Below.alloc ?_ (by first | omega | (simp; done) | (simp; omega) | (simp at *; omega)) _) | (with_reducible refine Below.setCell ?_ (by first | omega | (simp; done) | (simp; omega) | (simp at *; omega)) _) | (with_reducible exact Below.refl _ _) | (with_reducible assumption) | (with_reducible refine Below.trans ?_ (Below.mono (by assumption) (by first | omega | (simp; done) | (simp; omega) | (simp at *; omega)))))))⟩
          · have hW : Hid (fstD L (k + 1) = 0) := Lib.hid (by rw [fstD, if_pos hz.out]; unfold wndF; rw [hx.out, hF0.out, if_pos hz0.out, hc]; simp)
            have j6 : decide (p ≤ p2) = false := by simpa using hh
            clear hz hz0 hc
            go_upto_region 8 with (fail)
            refine wp_world (WnS p q r wr) ⟨by simp [go_sem], by simp [go_sem], by simp [go_sem], (by (repeat (first | (with_reducible refine Below.drew ?_) | (with_reducible refine below_drewN ?_ _) | (with_reducible refine Below.alloc ?_ (by first | omega | (simp; done) | (simp; omega) | (simp at *; omega)) _) | (with_reducible refine Below.setCell ?_ (by first | omega | (simp; done) | (simp; omega) | (simp at *; omega)) _) | (with_reducible exact Below.refl _ _) | (with_reducible assumption) | (with_reducible refine Below.trans ?_ (Below.mono (by assumption) (by first | omega | (simp; done) | (simp; omega) | (simp at *; omega))))))), by simp⟩ (fun u hu => ?_)
            obtain ⟨c0, c1, c2, hbu, hlu⟩ := hu
            have nu : u.heap.size ≠ wr.heap.size := by omega
            have nu2 : wr.heap.size ≠ u.heap.size := by omega
            refine wp_region_held_drew (S := (fun w' => w'.cell? ⟨wr.heap.size, 0, none⟩ = some (.int .i64 p) ∧ w'.cell? ⟨wr.heap.size, 1, none⟩ = some (.int .i64 q) ∧ w'.cell? ⟨wr.heap.size, 2, none⟩ = some (.int .i64 r))) (by kernel_rfl) (by simp [go_sem, World.cell?_alloc_past, *]) (fun hHeld => ?_)
            refine tkH 0 ⟨some 19, _, _, _, _, _⟩ ?_ rfl ?_ (by assumption) ?_
            rotate_left
            · (intro w hSw; (try dsimp only at hSw); go_simp; all_goals with_reducible rfl)
            try simp only [Act.put, sA, sB, sC]
            refine tkH 1 ⟨some 20, _, _, _, _, _⟩ ?_ rfl ?_ (by assumption) ?_
            rotate_left
            · (intro w hSw; (try dsimp only at hSw); go_simp; all_goals with_reducible rfl)
            try simp only [Act.put, sA, sB, sC]
            refine tkH 3 ⟨some 22, _, _, _, _, _⟩ ?_ rfl ?_ (by assumption) ?_
            rotate_left
            · (intro w hSw; (try dsimp only at hSw); go_simp; all_goals with_reducible rfl)
            try simp only [Act.put, sA, sB, sC]
            refine tkH 4 ⟨some 23, _, _, _, _, _⟩ ?_ rfl ?_ (by assumption) ?_
            rotate_left
            · (intro w hSw; (try dsimp only at hSw); go_simp; all_goals with_reducible rfl)
            try simp only [Act.put, sA, sB, sC]
            refine tkH 6 ⟨some 25, _, _, _, _, _⟩ ?_ rfl ?_ (by assumption) ?_
            rotate_left
            · (intro w hSw; (try dsimp only at hSw); go_simp; all_goals with_reducible rfl)
            try simp only [Act.put, sA, sB, sC]
            refine tkH 7 ⟨some 26, _, _, _, _, _⟩ ?_ rfl ?_ (by assumption) ?_
            rotate_left
            · (intro w hSw; (try dsimp only at hSw); go_simp; all_goals with_reducible rfl)
            try simp only [Act.put, sA, sB, sC]
            refine wpAnyH_ready (rs := [2]) (by kernel_rfl) (by simp) ?_
            refine AllReadyH.cons rfl (fun K hK => ?_) AllReadyH.nil
            go_simp
            refine (checkMinute_any _ _).mono ?_
            rintro e w' ⟨rfl, rfl⟩
            go_wp2_with fail
            refine hK.out _ _ (by simp [go_sem, World.cell?_alloc_past, *]) (fun hHeld => ?_)
            clear hK K
            try simp only [Act.put, sA, sB, sC]
            refine wpAnyH_ready (rs := [5]) (by kernel_rfl) (by simp) ?_
            refine AllReadyH.cons rfl (fun K hK => ?_) AllReadyH.nil
            go_simp
            refine (cRange_any _ _ _ _).mono ?_
            rintro e w' ⟨rfl, rfl⟩
            go_wp2_with fail
            refine hK.out _ _ (by simp [go_sem, World.cell?_alloc_past, *]) (fun hHeld => ?_)
            clear hK K
            try simp only [Act.put, sA, sB, sC]
            refine wpAnyH_ready (rs := [8]) (by kernel_rfl) (by simp) ?_
            refine AllReadyH.cons rfl (fun K hK => ?_) AllReadyH.nil
            go_simp
            refine (checkForce_is _ _).mono ?_
            rintro e w' ⟨rfl, rfl⟩
            go_wp2_with fail
            refine hK.out _ _ (by simp [go_sem, World.cell?_alloc_past, *]) (fun hHeld => ?_)
            clear hK K
            try simp only [Act.put, sA, sB, sC]
            refine wpAnyH_ready (rs := [9]) (by kernel_rfl) (by simp) ?_
            refine AllReadyH.cons rfl (fun K hK => ?_) AllReadyH.nil
            go_simp
            go_wp2_with fail
            refine hK.out _ _ (by simp [go_sem, World.cell?_alloc_past, *]) (fun hHeld => ?_)
            clear hK K
            try simp only [Act.put, sA, sB, sC]
            refine wpAnyH_ready (rs := [10]) (by kernel_rfl) (by simp) ?_
            refine AllReadyH.cons rfl (fun K hK => ?_) AllReadyH.nil
            go_simp
            refine (cF3y (rngE p 0 1000000) (rngE q 0 7) (rngE r 0 200) F _ _ hF (by simp [go_sem]) (by simp [go_sem]) (by simp [go_sem])).mono ?_
            rintro e w' ⟨rfl, rfl⟩
            go_wp2_with fail
            refine hK.out _ _ (by simp [go_sem, World.cell?_alloc_past, *]) (fun hHeld => ?_)
            clear hK K
            try simp only [Act.put, sA, sB, sC]
            refine tkH 11 ⟨some 5, _, _, _, _, _⟩ ?_ rfl ?_ (by assumption) ?_
            rotate_left
            · (intro w hSw; (try dsimp only at hSw); go_simp; all_goals with_reducible rfl)
            try simp only [Act.put, sA, sB, sC]
            refine wpAnyH_done (by kernel_rfl) ?_ _
            have e2 := hP.out u hbu
            have o4 : bl ≠ u.heap.size := by omega
            have o5 : u.heap.size ≠ bl := by omega
            have o6 : bl < u.heap.size := by omega
            go_wp2_with fail
            go_big_quiet (fail)
            go_wp2
            go_roundw
            case rel => exact ⟨k + 1, by omega, by go_num, hW, (by (repeat (first | (with_reducible refine Below.drew ?_) | (with_reducible refine below_drewN ?_ _) | (with_reducible refine Below.alloc ?_ (by first | omega | (simp; done) | (simp; omega) | (simp at *; omega)) _) | (with_reducible refine Below.setCell ?_ (by first | omega | (simp; done) | (simp; omega) | (simp at *; omega)) _) | (with_reducible exact Below.refl _ _) | (with_reducible assumption) | (with_reducible refine Below.trans ?_ (Below.mono (by assumption) (by first | omega | (simp; done) | (simp; omega) | (simp at *; omega)))))))⟩
            case measure => (simp [intOf]) <;> omega
        · have hr : Hid (E = F) := Lib.hid (by
            have h1 : wndF L k = F := by unfold wndF; rw [hx.out, hF0.out, if_neg hz0.out]
            rw [← HE.out, fstD_stop hz.out (by rw [h1]; exact hz0.out) n hkn, h1])
          clear hz hz0
          go_upto_region 8 with (fail)
          refine wp_world (WnS p q r wr) ⟨by simp [go_sem], by simp [go_sem], by simp [go_sem], (by (repeat (first | (with_reducible refine Below.drew ?_) | (with_reducible refine below_drewN ?_ _) | (with_reducible refine Below.alloc ?_ (by first | omega | (simp; done) | (simp; omega) | (simp at *; omega)) _) | (with_reducible refine Below.setCell ?_ (by first | omega | (simp; done) | (simp; omega) | (simp at *; omega)) _) | (with_reducible exact Below.refl _ _) | (with_reducible assumption) | (with_reducible refine Below.trans ?_ (Below.mono (by assumption) (by first | omega | (simp; done) | (simp; omega) | (simp at *; omega))))))), by simp⟩ (fun u hu => ?_)
          obtain ⟨c0, c1, c2, hbu, hlu⟩ := hu
          have nu : u.heap.size ≠ wr.heap.size := by omega
          have nu2 : wr.heap.size ≠ u.heap.size := by omega
          refine wp_region_held_drew (S := (fun w' => w'.cell? ⟨wr.heap.size, 0, none⟩ = some (.int .i64 p) ∧ w'.cell? ⟨wr.heap.size, 1, none⟩ = some (.int .i64 q) ∧ w'.cell? ⟨wr.heap.size, 2, none⟩ = some (.int .i64 r))) (by kernel_rfl) (by simp [go_sem, World.cell?_alloc_past, *]) (fun hHeld => ?_)
          refine tkH 0 ⟨some 19, _, _, _, _, _⟩ ?_ rfl ?_ (by assumption) ?_
          rotate_left
          · (intro w hSw; (try dsimp only at hSw); go_simp; all_goals with_reducible rfl)
          try simp only [Act.put, sA, sB, sC]
          refine tkH 1 ⟨some 20, _, _, _, _, _⟩ ?_ rfl ?_ (by assumption) ?_
          rotate_left
          · (intro w hSw; (try dsimp only at hSw); go_simp; all_goals with_reducible rfl)
          try simp only [Act.put, sA, sB, sC]
          refine tkH 3 ⟨some 22, _, _, _, _, _⟩ ?_ rfl ?_ (by assumption) ?_
          rotate_left
          · (intro w hSw; (try dsimp only at hSw); go_simp; all_goals with_reducible rfl)
          try simp only [Act.put, sA, sB, sC]
          refine tkH 4 ⟨some 23, _, _, _, _, _⟩ ?_ rfl ?_ (by assumption) ?_
          rotate_left
          · (intro w hSw; (try dsimp only at hSw); go_simp; all_goals with_reducible rfl)
          try simp only [Act.put, sA, sB, sC]
          refine tkH 6 ⟨some 25, _, _, _, _, _⟩ ?_ rfl ?_ (by assumption) ?_
          rotate_left
          · (intro w hSw; (try dsimp only at hSw); go_simp; all_goals with_reducible rfl)
          try simp only [Act.put, sA, sB, sC]
          refine tkH 7 ⟨some 26, _, _, _, _, _⟩ ?_ rfl ?_ (by assumption) ?_
          rotate_left
          · (intro w hSw; (try dsimp only at hSw); go_simp; all_goals with_reducible rfl)
          try simp only [Act.put, sA, sB, sC]
          refine wpAnyH_ready (rs := [2]) (by kernel_rfl) (by simp) ?_
          refine AllReadyH.cons rfl (fun K hK => ?_) AllReadyH.nil
          go_simp
          refine (checkMinute_any _ _).mono ?_
          rintro e w' ⟨rfl, rfl⟩
          go_wp2_with fail
          refine hK.out _ _ (by simp [go_sem, World.cell?_alloc_past, *]) (fun hHeld => ?_)
          clear hK K
          try simp only [Act.put, sA, sB, sC]
          refine wpAnyH_ready (rs := [5]) (by kernel_rfl) (by simp) ?_
          refine AllReadyH.cons rfl (fun K hK => ?_) AllReadyH.nil
          go_simp
          refine (cRange_any _ _ _ _).mono ?_
          rintro e w' ⟨rfl, rfl⟩
          go_wp2_with fail
          refine hK.out _ _ (by simp [go_sem, World.cell?_alloc_past, *]) (fun hHeld => ?_)
          clear hK K
          try simp only [Act.put, sA, sB, sC]
          refine wpAnyH_ready (rs := [8]) (by kernel_rfl) (by simp) ?_
          refine AllReadyH.cons rfl (fun K hK => ?_) AllReadyH.nil
          go_simp
          refine (checkForce_is _ _).mono ?_
          rintro e w' ⟨rfl, rfl⟩
          go_wp2_with fail
          refine hK.out _ _ (by simp [go_sem, World.cell?_alloc_past, *]) (fun hHeld => ?_)
          clear hK K
          try simp only [Act.put, sA, sB, sC]
          refine wpAnyH_ready (rs := [9]) (by kernel_rfl) (by simp) ?_
          refine AllReadyH.cons rfl (fun K hK => ?_) AllReadyH.nil
          go_simp
          go_wp2_with fail
          refine hK.out _ _ (by simp [go_sem, World.cell?_alloc_past, *]) (fun hHeld => ?_)
          clear hK K
          try simp only [Act.put, sA, sB, sC]
          refine wpAnyH_ready (rs := [10]) (by kernel_rfl) (by simp) ?_
          refine AllReadyH.cons rfl (fun K hK => ?_) AllReadyH.nil
          go_simp
          refine (cF3y (rngE p 0 1000000) (rngE q 0 7) (rngE r 0 200) F _ _ hF (by simp [go_sem]) (by simp [go_sem]) (by simp [go_sem])).mono ?_
          rintro e w' ⟨rfl, rfl⟩
          go_wp2_with fail
          refine hK.out _ _ (by simp [go_sem, World.cell?_alloc_past, *]) (fun hHeld => ?_)
          clear hK K
          try simp only [Act.put, sA, sB, sC]
          refine tkH 11 ⟨some 5, _, _, _, _, _⟩ ?_ rfl ?_ (by assumption) ?_
          rotate_left
          · (intro w hSw; (try dsimp only at hSw); go_simp; all_goals with_reducible rfl)
          try simp only [Act.put, sA, sB, sC]
          refine wpAnyH_done (by kernel_rfl) ?_ _
          go_wp2
          go_ret
          exact ⟨ret_int hr.out.symm, (by (repeat (first | (with_reducible refine Below.drew ?_) | (with_reducible refine below_drewN ?_ _) | (with_reducible refine Below.alloc ?_ (by first | omega | (simp; done) | (simp; omega) | (simp at *; omega)) _) | (with_reducible refine Below.setCell ?_ (by first | omega | (simp; done) | (simp; omega) | (simp at *; omega)) _) | (with_reducible exact Below.refl _ _) | (with_reducible assumption) | (with_reducible refine Below.trans ?_ (Below.mono (by assumption) (by first | omega | (simp; done) | (simp; omega) | (simp at *; omega)))))))⟩
      · have hkk : k = n := by omega
        have hr : Hid (E = 0) := Lib.hid (by rw [← HE.out, ← hkk]; exact hz.out)
        clear hz hkk
        go_wp2
        go_ret
        exact ⟨ret_int hr.out.symm, (by (repeat (first | (with_reducible refine Below.drew ?_) | (with_reducible refine below_drewN ?_ _) | (with_reducible refine Below.alloc ?_ (by first | omega | (simp; done) | (simp; omega) | (simp at *; omega)) _) | (with_reducible refine Below.setCell ?_ (by first | omega | (simp; done) | (simp; omega) | (simp at *; omega)) _) | (with_reducible exact Below.refl _ _) | (with_reducible assumption) | (with_reducible refine Below.trans ?_ (Below.mono (by assumption) (by first | omega | (simp; done) | (simp; omega) | (simp at *; omega)))))))⟩
  · rw [if_neg h60] at he
    have HE := Lib.hid he
    have i0 : (60 : Int) < (n : Int) := by omega
    clear he
    go_enter Tryz.func37, Tryz.ntmps37
    go_wp2
    go_ret
    exact ⟨ret_int HE.out, (by (repeat (first | (with_reducible refine Below.drew ?_) | (with_reducible refine below_drewN ?_ _) | (with_reducible refine Below.alloc ?_ (by first | omega | (simp; done) | (simp; omega) | (simp at *; omega)) _) | (with_reducible refine Below.setCell ?_ (by first | omega | (simp; done) | (simp; omega) | (simp at *; omega)) _) | (with_reducible exact Below.refl _ _) | (with_reducible assumption) | (with_reducible refine Below.trans ?_ (Below.mono (by assumption) (by first | omega | (simp; done) | (simp; omega) | (simp at *; omega)))))))⟩
end Go.Proofs.YtojaompfffpofaaGreat
