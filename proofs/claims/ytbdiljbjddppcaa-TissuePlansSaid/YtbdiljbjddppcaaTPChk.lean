/- What tissue.checkPlan, tissue.checkDiveLeg and the specification's checks of a plan return. -/
import Derived.Test.YtbdiljbjddppcaaTPData
import Derived.Test.YtbdiljbjddppcaaPress
import Derived.Test.YtbdiljbjddppcaaTEach
import Derived.Outline
namespace Go.Proofs.Ytbdiljbjddppcaa
open Go.ChangeShapes Go.WideShapes Go.ChangeAt Go.RowKit
set_option linter.unusedVariables false
set_option linter.unusedSimpArgs false
def gpE (x : Gp) : Int := gasE x.o x.h
/-- The error of a plan but for those of its legs. -/
def plnE (s : Int) (G : List Gp) (n : Nat) : Int := if inB s 400 1100 = true then (if 8 < G.length then 8 else if fstE gpE G = 0 then (if 60 < n then 8 else 0) else fstE gpE G) else 2
/-- The error of a leg of a plan. -/
def dlE (s d g dep ng : Int) : Int := if inB s 0 100000 = true ∧ inB d 0 30000 = true then (if inB g 0 (ng - 1) = true then (if s = 0 ∧ d ≠ dep then 11 else 0) else 6) else 2
theorem plnE_s {s : Int} {G : List Gp} {n : Nat} (h : inB s 400 1100 = false) : plnE s G n = 2 := by unfold plnE; rw [if_neg (by rw [h]; exact Bool.false_ne_true)]
theorem plnE_l {s : Int} {G : List Gp} {n : Nat} (h : inB s 400 1100 = true) (h8 : 8 < G.length) : plnE s G n = 8 := by unfold plnE; rw [if_pos h, if_pos h8]
theorem plnE_g {s : Int} {G : List Gp} {n : Nat} (h : inB s 400 1100 = true) (h8 : ¬ 8 < G.length) (hg : fstE gpE G ≠ 0) : plnE s G n = fstE gpE G := by unfold plnE; rw [if_pos h, if_neg h8, if_neg hg]
theorem plnE_m {s : Int} {G : List Gp} {n : Nat} (h : inB s 400 1100 = true) (h8 : ¬ 8 < G.length) (hg : fstE gpE G = 0) (h6 : 60 < n) : plnE s G n = 8 := by unfold plnE; rw [if_pos h, if_neg h8, if_pos hg, if_pos h6]
theorem plnE_0 {s : Int} {G : List Gp} {n : Nat} (h : inB s 400 1100 = true) (h8 : ¬ 8 < G.length) (hg : fstE gpE G = 0) (h6 : ¬ 60 < n) : plnE s G n = 0 := by unfold plnE; rw [if_pos h, if_neg h8, if_pos hg, if_neg h6]
theorem plnE_ok {s : Int} {G : List Gp} {n : Nat} (h : plnE s G n = 0) : inB s 400 1100 = true ∧ G.length ≤ 8 ∧ n ≤ 60 ∧ fstE gpE G = 0 := by
  unfold plnE at h
  split at h
  · rename_i h1
    split at h
    · omega
    · split at h
      · rename_i h3
        split at h
        · omega
        · exact ⟨h1, by omega, by omega, h3⟩
      · rename_i h3; exact absurd h h3
  · omega
theorem dlE_ok {s d g dep ng : Int} (h : dlE s d g dep ng = 0) : (0 ≤ s ∧ s ≤ 100000) ∧ (0 ≤ d ∧ d ≤ 30000) ∧ (0 ≤ g ∧ g ≤ ng - 1) ∧ ¬ (s = 0 ∧ d ≠ dep) := by
  unfold dlE at h
  split at h
  · rename_i h1
    rw [inB_iff, inB_iff] at h1
    split at h
    · rename_i h2
      rw [inB_iff] at h2
      split at h
      · omega
      · rename_i h3; exact ⟨h1.1, h1.2, h2, h3⟩
    · omega
  · omega
set_option maxHeartbeats 1000000 in
theorem eachGp_any (L : List Gp) (A : Option Addr) (cap : Nat) (w : World) (hl : L.length ≤ 1000000) (hL : SlGp w A L) :
    Calls Try.prog 98 #[.slice A L.length cap, .func (.func 51) #[] #[]] w fun e w' => e = .returned (.int .i64 (fstE gpE L)) ∧ Below w.heap.size w w' := by
  rcases hL with rfl | ⟨b, off, rfl, hlt, hL⟩
  · go_enter Try.func98, Try.ntmps98
    go_wp2
    refine wp_loop_rounds 1 ?_
    rw [rounds_succ]
    go_wp2
    go_ret
    exact ⟨rfl, (by (repeat (first | (with_reducible refine Below.drew ?_) | (with_reducible refine below_drewN ?_ _) | (with_reducible refine Below.alloc ?_ (by first | omega | (simp; done) | (simp; omega) | (simp at *; omega)) _) | (with_reducible refine Below.setCell ?_ (by first | omega | (simp; done) | (simp; omega) | (simp at *; omega)) _) | (with_reducible exact Below.refl _ _) | (with_reducible assumption) | (with_reducible refine Below.trans ?_ (Below.mono (by assumption) (by first | omega | (simp; done) | (simp; omega) | (simp at *; omega)))))))⟩
  have HP : Hid (GpAt w b off L) := hL
  clear hL
  go_enter Try.func98, Try.ntmps98
  go_wp2
  go_loopw [10] (fun i wr => ∃ k : Nat, k ≤ L.length ∧ i = .int .i64 k ∧ Hid (∀ j, (hj : j < k) → (hj' : j < L.length) → gpE L[j] = 0) ∧ Below w.heap.size w wr) (fun i _ => L.length - (intOf i).toNat)
  case atStart => exact ⟨0, by omega, rfl, fun j hj => by omega, (by (repeat (first | (with_reducible refine Below.drew ?_) | (with_reducible refine below_drewN ?_ _) | (with_reducible refine Below.alloc ?_ (by first | omega | (simp; done) | (simp; omega) | (simp at *; omega)) _) | (with_reducible refine Below.setCell ?_ (by first | omega | (simp; done) | (simp; omega) | (simp at *; omega)) _) | (with_reducible exact Below.refl _ _) | (with_reducible assumption) | (with_reducible refine Below.trans ?_ (Below.mono (by assumption) (by first | omega | (simp; done) | (simp; omega) | (simp at *; omega)))))))⟩
  case round =>
    obtain ⟨k, hk, rfl, hz, hB⟩ := hrel
    by_cases hkl : k < L.length
    · obtain ⟨c0, c1⟩ := HP.out.below hB hlt k hkl
      have hsz := hB.size
      obtain ⟨p0, h0⟩ : ∃ x, Hid (L[k].o = x) := ⟨L[k].o, rfl⟩
      obtain ⟨p1, h1⟩ : ∃ x, Hid (L[k].h = x) := ⟨L[k].h, rfl⟩
      rw [h0.out] at c0
      rw [h1.out] at c1
      have hpe : Hid (gpE L[k] = gasE p0 p1) := by unfold gpE Hid; rw [h0.out, h1.out]
      rcases ez2 (gasE p0 p1) with ⟨hz0, hzb⟩ | ⟨hz0, hzb⟩
      · have hz2 : Hid (∀ j, (hj : j < k + 1) → (hj' : j < L.length) → gpE L[j] = 0) := fun j hj hj' => by
          by_cases e : j = k
          · subst e; rw [hpe.out]; exact hz0.out
          · exact hz.out j (by omega) hj'
        clear hz hz0
        go_wp2_with ((go_at_call 51; ((with_reducible refine (CheckGas_any _ _ _).mono ?_)); rintro e w' ⟨rfl, rfl⟩))
        go_roundw
        case rel => exact ⟨k + 1, by omega, by go_num, hz2, (by (repeat (first | (with_reducible refine Below.drew ?_) | (with_reducible refine below_drewN ?_ _) | (with_reducible refine Below.alloc ?_ (by first | omega | (simp; done) | (simp; omega) | (simp at *; omega)) _) | (with_reducible refine Below.setCell ?_ (by first | omega | (simp; done) | (simp; omega) | (simp at *; omega)) _) | (with_reducible exact Below.refl _ _) | (with_reducible assumption) | (with_reducible refine Below.trans ?_ (Below.mono (by assumption) (by first | omega | (simp; done) | (simp; omega) | (simp at *; omega)))))))⟩
        case measure => simp [intOf]; omega
      · have hr : Hid (fstE gpE L = gasE p0 p1) := by
          have h1 : gpE L[k] ≠ 0 := by rw [hpe.out]; exact hz0.out
          have h2 := fstE_at hkl (fun j hj => hz.out j hj (by omega)) h1
          rw [hpe.out] at h2
          exact h2
        clear hz
        go_wp2_with ((go_at_call 51; ((with_reducible refine (CheckGas_any _ _ _).mono ?_)); rintro e w' ⟨rfl, rfl⟩))
        go_ret
        exact ⟨ret_int hr.out.symm, (by (repeat (first | (with_reducible refine Below.drew ?_) | (with_reducible refine below_drewN ?_ _) | (with_reducible refine Below.alloc ?_ (by first | omega | (simp; done) | (simp; omega) | (simp at *; omega)) _) | (with_reducible refine Below.setCell ?_ (by first | omega | (simp; done) | (simp; omega) | (simp at *; omega)) _) | (with_reducible exact Below.refl _ _) | (with_reducible assumption) | (with_reducible refine Below.trans ?_ (Below.mono (by assumption) (by first | omega | (simp; done) | (simp; omega) | (simp at *; omega)))))))⟩
    · have hkk : k = L.length := by omega
      have hr : Hid (fstE gpE L = 0) := fstE_z fun j hj => hz.out j (by omega) hj
      clear hz hkk
      go_wp2
      go_ret
      exact ⟨ret_int hr.out.symm, (by (repeat (first | (with_reducible refine Below.drew ?_) | (with_reducible refine below_drewN ?_ _) | (with_reducible refine Below.alloc ?_ (by first | omega | (simp; done) | (simp; omega) | (simp at *; omega)) _) | (with_reducible refine Below.setCell ?_ (by first | omega | (simp; done) | (simp; omega) | (simp at *; omega)) _) | (with_reducible exact Below.refl _ _) | (with_reducible assumption) | (with_reducible refine Below.trans ?_ (Below.mono (by assumption) (by first | omega | (simp; done) | (simp; omega) | (simp at *; omega)))))))⟩
set_option maxHeartbeats 1000000 in
theorem refGases_few (L : List Gp) (A : Option Addr) (cap : Nat) (w : World) (hl : L.length ≤ 8) (hL : SlGp w A L) :
    Calls Try.prog 82 #[.slice A L.length cap] w fun e w' => e = .returned (.int .i64 (fstE gpE L)) ∧ Below w.heap.size w w' := by
  rcases hL with rfl | ⟨b, off, rfl, hlt, hL⟩
  · go_enter Try.func82, Try.ntmps82
    go_wp2
    refine wp_loop_rounds 1 ?_
    rw [rounds_succ]
    go_wp2
    go_ret
    exact ⟨rfl, (by (repeat (first | (with_reducible refine Below.drew ?_) | (with_reducible refine below_drewN ?_ _) | (with_reducible refine Below.alloc ?_ (by first | omega | (simp; done) | (simp; omega) | (simp at *; omega)) _) | (with_reducible refine Below.setCell ?_ (by first | omega | (simp; done) | (simp; omega) | (simp at *; omega)) _) | (with_reducible exact Below.refl _ _) | (with_reducible assumption) | (with_reducible refine Below.trans ?_ (Below.mono (by assumption) (by first | omega | (simp; done) | (simp; omega) | (simp at *; omega)))))))⟩
  have HP : Hid (GpAt w b off L) := hL
  clear hL
  go_enter Try.func82, Try.ntmps82
  go_wp2
  go_loopw [3] (fun i wr => ∃ k : Nat, k ≤ L.length ∧ i = .int .i64 k ∧ Hid (∀ j, (hj : j < k) → (hj' : j < L.length) → gpE L[j] = 0) ∧ Below w.heap.size w wr) (fun i _ => L.length - (intOf i).toNat)
  case atStart => exact ⟨0, by omega, rfl, fun j hj => by omega, (by (repeat (first | (with_reducible refine Below.drew ?_) | (with_reducible refine below_drewN ?_ _) | (with_reducible refine Below.alloc ?_ (by first | omega | (simp; done) | (simp; omega) | (simp at *; omega)) _) | (with_reducible refine Below.setCell ?_ (by first | omega | (simp; done) | (simp; omega) | (simp at *; omega)) _) | (with_reducible exact Below.refl _ _) | (with_reducible assumption) | (with_reducible refine Below.trans ?_ (Below.mono (by assumption) (by first | omega | (simp; done) | (simp; omega) | (simp at *; omega)))))))⟩
  case round =>
    obtain ⟨k, hk, rfl, hz, hB⟩ := hrel
    by_cases hkl : k < L.length
    · obtain ⟨c0, c1⟩ := HP.out.below hB hlt k hkl
      have hsz := hB.size
      obtain ⟨p0, h0⟩ : ∃ x, Hid (L[k].o = x) := ⟨L[k].o, rfl⟩
      obtain ⟨p1, h1⟩ : ∃ x, Hid (L[k].h = x) := ⟨L[k].h, rfl⟩
      rw [h0.out] at c0
      rw [h1.out] at c1
      have hpe : Hid (gpE L[k] = gasE p0 p1) := by unfold gpE Hid; rw [h0.out, h1.out]
      rcases ez2 (gasE p0 p1) with ⟨hz0, hzb⟩ | ⟨hz0, hzb⟩
      · have hz2 : Hid (∀ j, (hj : j < k + 1) → (hj' : j < L.length) → gpE L[j] = 0) := fun j hj hj' => by
          by_cases e : j = k
          · subst e; rw [hpe.out]; exact hz0.out
          · exact hz.out j (by omega) hj'
        clear hz hz0
        go_wp2_with ((go_at_call 17; ((with_reducible refine (refCheckGas_any _ _ _).mono ?_)); rintro e w' ⟨rfl, rfl⟩))
        go_roundw
        case rel => exact ⟨k + 1, by omega, by go_num, hz2, (by (repeat (first | (with_reducible refine Below.drew ?_) | (with_reducible refine below_drewN ?_ _) | (with_reducible refine Below.alloc ?_ (by first | omega | (simp; done) | (simp; omega) | (simp at *; omega)) _) | (with_reducible refine Below.setCell ?_ (by first | omega | (simp; done) | (simp; omega) | (simp at *; omega)) _) | (with_reducible exact Below.refl _ _) | (with_reducible assumption) | (with_reducible refine Below.trans ?_ (Below.mono (by assumption) (by first | omega | (simp; done) | (simp; omega) | (simp at *; omega)))))))⟩
        case measure => simp [intOf]; omega
      · have hr : Hid (fstE gpE L = gasE p0 p1) := by
          have h1 : gpE L[k] ≠ 0 := by rw [hpe.out]; exact hz0.out
          have h2 := fstE_at hkl (fun j hj => hz.out j hj (by omega)) h1
          rw [hpe.out] at h2
          exact h2
        clear hz
        go_wp2_with ((go_at_call 17; ((with_reducible refine (refCheckGas_any _ _ _).mono ?_)); rintro e w' ⟨rfl, rfl⟩))
        go_ret
        exact ⟨ret_int hr.out.symm, (by (repeat (first | (with_reducible refine Below.drew ?_) | (with_reducible refine below_drewN ?_ _) | (with_reducible refine Below.alloc ?_ (by first | omega | (simp; done) | (simp; omega) | (simp at *; omega)) _) | (with_reducible refine Below.setCell ?_ (by first | omega | (simp; done) | (simp; omega) | (simp at *; omega)) _) | (with_reducible exact Below.refl _ _) | (with_reducible assumption) | (with_reducible refine Below.trans ?_ (Below.mono (by assumption) (by first | omega | (simp; done) | (simp; omega) | (simp at *; omega)))))))⟩
    · have hkk : k = L.length := by omega
      have hr : Hid (fstE gpE L = 0) := fstE_z fun j hj => hz.out j (by omega) hj
      clear hz hkk
      go_wp2
      go_ret
      exact ⟨ret_int hr.out.symm, (by (repeat (first | (with_reducible refine Below.drew ?_) | (with_reducible refine below_drewN ?_ _) | (with_reducible refine Below.alloc ?_ (by first | omega | (simp; done) | (simp; omega) | (simp at *; omega)) _) | (with_reducible refine Below.setCell ?_ (by first | omega | (simp; done) | (simp; omega) | (simp at *; omega)) _) | (with_reducible exact Below.refl _ _) | (with_reducible assumption) | (with_reducible refine Below.trans ?_ (Below.mono (by assumption) (by first | omega | (simp; done) | (simp; omega) | (simp at *; omega)))))))⟩
theorem refGases_many (L : List Gp) (A : Option Addr) (cap : Nat) (w : World) (hl : 8 < L.length) (hm : L.length ≤ 1000000) :
    Calls Try.prog 82 #[.slice A L.length cap] w fun e w' => e = .returned (.int .i64 8) ∧ Below w.heap.size w w' := by
  have hl' : (8 : Int) < L.length := by omega
  go_enter Try.func82, Try.ntmps82
  go_wp2
  go_ret
  exact ⟨rfl, (by (repeat (first | (with_reducible refine Below.drew ?_) | (with_reducible refine below_drewN ?_ _) | (with_reducible refine Below.alloc ?_ (by first | omega | (simp; done) | (simp; omega) | (simp at *; omega)) _) | (with_reducible refine Below.setCell ?_ (by first | omega | (simp; done) | (simp; omega) | (simp at *; omega)) _) | (with_reducible exact Below.refl _ _) | (with_reducible assumption) | (with_reducible refine Below.trans ?_ (Below.mono (by assumption) (by first | omega | (simp; done) | (simp; omega) | (simp at *; omega)))))))⟩
set_option maxHeartbeats 1000000 in
theorem checkPlan_any (nm : Value) (s : Int) (G : List Gp) (A B : Option Addr) (cap cap' n : Nat) (w : World) (hl : G.length ≤ 1000000) (hn : n ≤ 1000000) (hG : SlGp w A G) :
    Calls Try.prog 76 #[.agg #[nm, .int .i64 s, .slice A G.length cap, .slice B n cap']] w fun e w' => e = .returned (.int .i64 (plnE s G n)) ∧ Below w.heap.size w w' := by
  have HG := Lib.hid hG
  clear hG
  rcases inB_cases s 400 1100 with hs | hs
  · have hq : rngE s 400 1100 = 0 := rngE_t hs
    by_cases h8 : 8 < G.length
    · have hr : Hid (plnE s G n = 8) := plnE_l hs h8
      have h8' : (8 : Int) < G.length := by omega
      go_enter Try.func76, Try.ntmps76
      go_wp2_with ((go_at_call 97; ((with_reducible refine (tcheckSurface_any _ _).mono ?_)); rintro e w' ⟨rfl, rfl⟩))
      go_ret
      exact ⟨ret_int hr.out.symm, (by (repeat (first | (with_reducible refine Below.drew ?_) | (with_reducible refine below_drewN ?_ _) | (with_reducible refine Below.alloc ?_ (by first | omega | (simp; done) | (simp; omega) | (simp at *; omega)) _) | (with_reducible refine Below.setCell ?_ (by first | omega | (simp; done) | (simp; omega) | (simp at *; omega)) _) | (with_reducible exact Below.refl _ _) | (with_reducible assumption) | (with_reducible refine Below.trans ?_ (Below.mono (by assumption) (by first | omega | (simp; done) | (simp; omega) | (simp at *; omega)))))))⟩
    have h8' : ¬ (8 : Int) < G.length := by omega
    obtain ⟨g, hg⟩ : ∃ g, Hid (fstE gpE G = g) := ⟨_, rfl⟩
    have HE := Lib.hid (fun w hG => by have := eachGp_any G A cap w hl hG; rw [hg.out] at this; exact this)
    have hr : Hid (plnE s G n = if g = 0 then (if 60 < n then 8 else 0) else g) := by unfold plnE Hid; rw [if_pos hs, if_neg h8, hg.out]
    clear hg h8
    go_enter Try.func76, Try.ntmps76
    go_wp2_with ((go_at_call 97; ((with_reducible refine (tcheckSurface_any _ _).mono ?_)); rintro e w' ⟨rfl, rfl⟩))
    refine (HE.out _ (HG.out.below (by (repeat (first | (with_reducible refine Below.drew ?_) | (with_reducible refine below_drewN ?_ _) | (with_reducible refine Below.alloc ?_ (by first | omega | (simp; done) | (simp; omega) | (simp at *; omega)) _) | (with_reducible refine Below.setCell ?_ (by first | omega | (simp; done) | (simp; omega) | (simp at *; omega)) _) | (with_reducible exact Below.refl _ _) | (with_reducible assumption) | (with_reducible refine Below.trans ?_ (Below.mono (by assumption) (by first | omega | (simp; done) | (simp; omega) | (simp at *; omega))))))))).mono ?_
    rintro e w1 ⟨rfl, hb1⟩
    have c1 : w1.cell? ⟨w.heap.size, 1, none⟩ = some (.int .i64 s) := by rw [(bcell hb1).1 _ _ (by first | (simp; done) | (simp; omega) | omega)]; simp [go_sem, World.cell?_alloc_past]
    have c2 : w1.cell? ⟨w.heap.size, 2, none⟩ = some (.slice A G.length cap) := by rw [(bcell hb1).1 _ _ (by first | (simp; done) | (simp; omega) | omega)]; simp [go_sem, World.cell?_alloc_past]
    have c3 : w1.cell? ⟨w.heap.size, 3, none⟩ = some (.slice B n cap') := by rw [(bcell hb1).1 _ _ (by first | (simp; done) | (simp; omega) | omega)]; simp [go_sem, World.cell?_alloc_past]
    have hB1 : Below w.heap.size w w1 := (by (repeat (first | (with_reducible refine Below.drew ?_) | (with_reducible refine below_drewN ?_ _) | (with_reducible refine Below.alloc ?_ (by first | omega | (simp; done) | (simp; omega) | (simp at *; omega)) _) | (with_reducible refine Below.setCell ?_ (by first | omega | (simp; done) | (simp; omega) | (simp at *; omega)) _) | (with_reducible exact Below.refl _ _) | (with_reducible assumption) | (with_reducible refine Below.trans ?_ (Below.mono (by assumption) (by first | omega | (simp; done) | (simp; omega) | (simp at *; omega)))))))
    clear hb1 HE
    rcases ez2 g with ⟨gz, gb⟩ | ⟨gz, gb⟩
    · by_cases h6 : 60 < n
      · have h6' : (60 : Int) < n := by omega
        have hr2 : Hid (plnE s G n = 8) := by show _ = _; rw [hr.out, if_pos gz.out, if_pos h6]
        clear hr gz
        go_wp2
        go_ret
        exact ⟨ret_int hr2.out.symm, hB1⟩
      · have h6' : ¬ (60 : Int) < n := by omega
        have hr2 : Hid (plnE s G n = 0) := by show _ = _; rw [hr.out, if_pos gz.out, if_neg h6]
        clear hr gz
        go_wp2
        go_ret
        exact ⟨ret_int hr2.out.symm, hB1⟩
    · have hr2 : Hid (plnE s G n = g) := by show _ = _; rw [hr.out, if_neg gz.out]
      clear hr gz
      go_wp2
      go_ret
      exact ⟨ret_int hr2.out.symm, hB1⟩
  · have hq : rngE s 400 1100 = 2 := rngE_f hs
    have hr : Hid (plnE s G n = 2) := plnE_s hs
    go_enter Try.func76, Try.ntmps76
    go_wp2_with ((go_at_call 97; ((with_reducible refine (tcheckSurface_any _ _).mono ?_)); rintro e w' ⟨rfl, rfl⟩))
    go_ret
    exact ⟨ret_int hr.out.symm, (by (repeat (first | (with_reducible refine Below.drew ?_) | (with_reducible refine below_drewN ?_ _) | (with_reducible refine Below.alloc ?_ (by first | omega | (simp; done) | (simp; omega) | (simp at *; omega)) _) | (with_reducible refine Below.setCell ?_ (by first | omega | (simp; done) | (simp; omega) | (simp at *; omega)) _) | (with_reducible exact Below.refl _ _) | (with_reducible assumption) | (with_reducible refine Below.trans ?_ (Below.mono (by assumption) (by first | omega | (simp; done) | (simp; omega) | (simp at *; omega)))))))⟩
set_option maxHeartbeats 1000000 in
theorem checkDiveLeg_any (s d g dep : Int) (ng : Nat) (E : Int) (w : World) (hn : ng ≤ 1000000) (hE : Hid (dlE s d g dep ng = E)) :
    Calls Try.prog 77 #[.agg #[.int .i64 s, .int .i64 d, .int .i64 g], .int .i64 dep, .int .i64 ng] w fun e w' => e = .returned (.int .i64 E) ∧ w.alloc (.cells #[.int .i64 s, .int .i64 d, .int .i64 g] 112) = w' := by
  have hE1 := hE.out
  unfold dlE at hE1
  clear hE
  rcases inB_cases s 0 100000 with h1 | h1
  · rcases inB_cases d 0 30000 with h2 | h2
    · rcases inB_cases g 0 ((ng : Int) - 1) with h3 | h3
      · rw [if_pos ⟨h1, h2⟩, if_pos h3] at hE1
        by_cases hs : s = 0
        · by_cases hd : d = dep
          · rw [if_neg (by simp [hd])] at hE1
            have k1 : (s == 0) = true := by simp [hs]
            have k2 : (d != dep) = false := by simp [hd]
            have hr := Lib.hid hE1
            clear hE1 hs hd
            go_enter Try.func77, Try.ntmps77
            go_wp2_with ((go_at_call 89; ((with_reducible refine (cWithin_any _ _ _ _).mono ?_)); rintro e w' ⟨rfl, rfl⟩))
            go_ret
            exact ⟨ret_int hr.out, rfl⟩
          · rw [if_pos ⟨hs, hd⟩] at hE1
            have k1 : (s == 0) = true := by simp [hs]
            have k2 : (d != dep) = true := by simp [hd]
            have hr := Lib.hid hE1
            clear hE1 hs hd
            go_enter Try.func77, Try.ntmps77
            go_wp2_with ((go_at_call 89; ((with_reducible refine (cWithin_any _ _ _ _).mono ?_)); rintro e w' ⟨rfl, rfl⟩))
            go_ret
            exact ⟨ret_int hr.out, rfl⟩
        · rw [if_neg (fun h => hs h.1)] at hE1
          have k1 : (s == 0) = false := by simp [hs]
          have hr := Lib.hid hE1
          clear hE1 hs
          go_enter Try.func77, Try.ntmps77
          go_wp2_with ((go_at_call 89; ((with_reducible refine (cWithin_any _ _ _ _).mono ?_)); rintro e w' ⟨rfl, rfl⟩))
          go_ret
          exact ⟨ret_int hr.out, rfl⟩
      · rw [if_pos ⟨h1, h2⟩, if_neg (by rw [h3]; exact Bool.false_ne_true)] at hE1
        have hr := Lib.hid hE1
        clear hE1
        go_enter Try.func77, Try.ntmps77
        go_wp2_with ((go_at_call 89; ((with_reducible refine (cWithin_any _ _ _ _).mono ?_)); rintro e w' ⟨rfl, rfl⟩))
        go_ret
        exact ⟨ret_int hr.out, rfl⟩
    · rw [if_neg (by rw [h2]; simp)] at hE1
      have hr := Lib.hid hE1
      clear hE1
      go_enter Try.func77, Try.ntmps77
      go_wp2_with ((go_at_call 89; ((with_reducible refine (cWithin_any _ _ _ _).mono ?_)); rintro e w' ⟨rfl, rfl⟩))
      go_ret
      exact ⟨ret_int hr.out, rfl⟩
  · rw [if_neg (by rw [h1]; simp)] at hE1
    have hr := Lib.hid hE1
    clear hE1
    go_enter Try.func77, Try.ntmps77
    go_wp2_with ((go_at_call 89; ((with_reducible refine (cWithin_any _ _ _ _).mono ?_)); rintro e w' ⟨rfl, rfl⟩))
    go_ret
    exact ⟨ret_int hr.out, rfl⟩
theorem PressureAt_is (s d x : Int) (w : World) (hs : inB s 400 1100 = true) (hd : inB d 0 30000 = true) (hx : Hid (s + d = x)) :
    Calls Try.prog 78 #[.int .i64 s, .int .i64 d] w fun e w' => e = .returned (.tuple #[.int .i64 x, .int .i64 0]) ∧ Below w.heap.size w w' := by
  have hE : plE s d = 0 := by unfold plE; rw [rngE_t hs, rngE_t hd]; rfl
  have hP : plP s d = x := by unfold plP; rw [if_pos hE]; exact hx.out
  have := PressureAt_any s d w
  rw [hE, hP] at this
  exact this
theorem refIsSurface_any (n : Int) (w : World) :
    Calls Try.prog 81 #[.int .i64 n] w fun e w' => e = .returned (.bool (inB n 400 1100)) ∧ w = w' := by
  go_enter Try.func81, Try.ntmps81
  go_wp2_with ((go_at_call 23; ((with_reducible refine (baseWithin_any _ _ _ _).mono ?_)); rintro e w' ⟨rfl, rfl⟩))
  go_ret
  exact ⟨rfl, rfl⟩
end Go.Proofs.Ytbdiljbjddppcaa
