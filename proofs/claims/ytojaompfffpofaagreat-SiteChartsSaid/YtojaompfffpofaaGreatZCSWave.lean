import Derived.Test.YtojaompfffpofaaGreatZCFLeaf
import Derived.Test.YtojaompfffpofaaGreatZCRows2
import Derived.Test.YtojaompfffpofaaGreatZCSLev
import Derived.Deep.DrawnRows
import Derived.Deep.CutRange
import Derived.Deep.CutBlock
import Derived.Outline
namespace Go.Proofs.YtojaompfffpofaaGreat
open Go.ChangeShapes Go.WideShapes Go.ChangeAt Go.RowKit
set_option linter.unusedVariables false
set_option linter.unusedSimpArgs false
attribute [local go_sem ↓] Go.wp_at_zero Go.wp_at_succ
/-- The first error of a list. -/
def fstE {α : Type} (f : α → Int) : List α → Int
  | [] => 0
  | p :: r => if f p = 0 then fstE f r else f p
theorem fstE_z {α : Type} {f : α → Int} {P : List α} (h : ∀ k, (hk : k < P.length) → f P[k] = 0) : fstE f P = 0 := by
  induction P with
  | nil => rfl
  | cons p r ih =>
    unfold fstE
    rw [if_pos (show f p = 0 from h 0 (by simp))]
    exact ih fun k hk => h (k + 1) (by simpa using hk)
theorem fstE_at {α : Type} {f : α → Int} {P : List α} {k : Nat} (hk : k < P.length) (hz : ∀ j, (hj : j < k) → f (P[j]'(by omega)) = 0) (hn : f P[k] ≠ 0) : fstE f P = f P[k] := by
  induction P generalizing k with
  | nil => simp at hk
  | cons p r ih =>
    unfold fstE
    cases k with
    | zero => exact if_neg hn
    | succ k =>
      rw [if_pos (show f p = 0 from hz 0 (by omega))]
      exact ih (by simpa using hk) (fun j hj => hz (j + 1) (by omega)) hn
theorem fstE_all {α : Type} {f : α → Int} {P : List α} (h : fstE f P = 0) : ∀ k, (hk : k < P.length) → f P[k] = 0 := by
  induction P with
  | nil => intro k hk; simp at hk
  | cons p r ih =>
    unfold fstE at h
    by_cases h0 : f p = 0
    · rw [if_pos h0] at h
      intro k hk
      cases k with
      | zero => exact h0
      | succ k => exact ih h k (by simpa using hk)
    · rw [if_neg h0] at h; exact absurd h h0
theorem ez2 (e : Int) : (Hid (e = 0) ∧ (e != 0) = false) ∨ (Hid (e ≠ 0) ∧ (e != 0) = true) := by
  by_cases h : e = 0
  · exact Or.inl ⟨h, by simp [h]⟩
  · exact Or.inr ⟨h, by simpa using h⟩
def wvV (x : Wv) : List Value := [.int .i64 x.h, .int .i64 x.p, .int .i64 x.f]
def wvE (x : Wv) : Int := firE [rngE x.h 0 100000, rngE x.p 1 100000, rngE x.f 0 4095]
/-- The error of a table; of a table and a minute. -/
def tidE (m : Int) (L : List Wv) : Int := if inB m (-100000) 100000 = true then (if L.length ≤ 10 then fstE wvE L else 8) else 2
theorem firE3 {a b c : Int} (h : firE [a, b, c] = 0) : a = 0 ∧ b = 0 ∧ c = 0 := by
  unfold firE firE firE firE at h
  by_cases ha : a = 0
  · by_cases hb : b = 0
    · by_cases hc : c = 0
      · exact ⟨ha, hb, hc⟩
      · rw [if_pos ha, if_pos hb, if_neg hc] at h; exact absurd h hc
    · rw [if_pos ha, if_neg hb] at h; exact absurd h hb
  · rw [if_neg ha] at h; exact absurd h ha
theorem rngE_0 {n a b : Int} (h : rngE n a b = 0) : a ≤ n ∧ n ≤ b := by
  unfold rngE at h
  split at h
  · exact inB_iff.1 (by assumption)
  · omega
theorem wvE_ok {x : Wv} (h : wvE x = 0) : WvOk x := by
  obtain ⟨h1, h2, h3⟩ := firE3 h
  have a1 := rngE_0 h1
  have a2 := rngE_0 h2
  have a3 := rngE_0 h3
  exact ⟨a1.1, a1.2, a2.1, a2.2, a3.1, a3.2⟩
theorem tidE_ok {m : Int} {L : List Wv} (h : tidE m L = 0) : -100000 ≤ m ∧ m ≤ 100000 ∧ L.length ≤ 10 ∧ ∀ x ∈ L, WvOk x := by
  unfold tidE at h
  split at h
  · rename_i h1
    have := inB_iff.1 h1
    split at h
    · refine ⟨this.1, this.2, by assumption, fun x hx => ?_⟩
      obtain ⟨k, hk, rfl⟩ := List.getElem_of_mem hx
      exact wvE_ok (fstE_all h k hk)
    · omega
  · omega
theorem wv_at {w : World} {b off : Nat} {L : List Wv} (h : RowsAt wvV 3 w b off L) {k : Nat} (hk : k < L.length) : w.cell? ⟨b, off + k * 3, none⟩ = some (.int .i64 L[k].h) ∧ w.cell? ⟨b, off + k * 3 + 1, none⟩ = some (.int .i64 L[k].p) ∧ w.cell? ⟨b, off + k * 3 + 2, none⟩ = some (.int .i64 L[k].f) :=
  ⟨h k hk 0 (by omega), h k hk 1 (by omega), h k hk 2 (by omega)⟩
theorem checkMinute_any (n : Int) (w : World) :
    Calls Tryz.prog 77 #[.int .i64 n] w fun e w' => e = .returned (.int .i64 (rngE n 0 1000000)) ∧ w = w' := by
  go_enter Tryz.func77, Tryz.ntmps77
  go_wp2_with ((go_at_call 87; ((with_reducible refine (cRange_any _ _ _ _).mono ?_)); rintro e w' ⟨rfl, rfl⟩))
  go_ret
  exact ⟨rfl, rfl⟩
theorem checkAngle_any (n : Int) (w : World) :
    Calls Tryz.prog 137 #[.int .i64 n] w fun e w' => e = .returned (.int .i64 (rngE n 0 4095)) ∧ w = w' := by
  go_enter Tryz.func137, Tryz.ntmps137
  go_wp2_with ((go_at_call 87; ((with_reducible refine (cRange_any _ _ _ _).mono ?_)); rintro e w' ⟨rfl, rfl⟩))
  go_ret
  exact ⟨rfl, rfl⟩
theorem cF3x (x y z r : Int) (b : Nat) (w : World) (hr : Hid (firE [x, y, z] = r)) (h0 : w.cell? ⟨b, 0, none⟩ = some (.int .i64 x)) (h1 : w.cell? ⟨b, 1, none⟩ = some (.int .i64 y)) (h2 : w.cell? ⟨b, 2, none⟩ = some (.int .i64 z)) :
    Calls Tryz.prog 64 #[.slice (some ⟨b, 0, none⟩) 3 3] w fun e w' => e = .returned (.int .i64 r) ∧ w = w' := by
  rw [← hr.out]
  refine cFirst_any [x, y, z] b 0 _ (by simp) (by simp) ?_
  intro k hk
  have : k = 0 ∨ k = 1 ∨ k = 2 := by simp at hk; omega
  rcases this with rfl | rfl | rfl <;> simp [*]
theorem cF2x (x y r : Int) (b : Nat) (w : World) (hr : Hid (firE [x, y] = r)) (h0 : w.cell? ⟨b, 0, none⟩ = some (.int .i64 x)) (h1 : w.cell? ⟨b, 1, none⟩ = some (.int .i64 y)) :
    Calls Tryz.prog 64 #[.slice (some ⟨b, 0, none⟩) 2 2] w fun e w' => e = .returned (.int .i64 r) ∧ w = w' := by
  rw [← hr.out]
  refine cFirst_any [x, y] b 0 _ (by simp) (by simp) ?_
  intro k hk
  have : k = 0 ∨ k = 1 := by simp at hk; omega
  rcases this with rfl | rfl <;> simp [*]
set_option maxRecDepth 100000 in
set_option maxHeartbeats 1000000 in
theorem checkWave_any (h p f E : Int) (w : World) (hE : Hid (wvE ⟨h, p, f⟩ = E)) :
    Calls Tryz.prog 107 #[.agg #[.int .i64 h, .int .i64 p, .int .i64 f]] w fun e w' => e = .returned (.int .i64 E) ∧ Below w.heap.size w w' := by
  go_enter Tryz.func107, Tryz.ntmps107
  go_upto_region 1 with (fail)
  refine wp_region_held_drew (S := (fun w' => w'.cell? ⟨w.heap.size, 0, none⟩ = some (.int .i64 h) ∧ w'.cell? ⟨w.heap.size, 1, none⟩ = some (.int .i64 p) ∧ w'.cell? ⟨w.heap.size, 2, none⟩ = some (.int .i64 f))) (by kernel_rfl) (by simp [go_sem, World.cell?_alloc_past, *]) (fun hHeld => ?_)
  refine tkH 0 ⟨some 3, _, _, _, _, _⟩ ?_ rfl ?_ (by assumption) ?_
  rotate_left
  · (intro w hSw; (try dsimp only at hSw); go_simp; all_goals with_reducible rfl)
  try simp only [Act.put, sA, sB, sC]
  refine tkH 1 ⟨some 4, _, _, _, _, _⟩ ?_ rfl ?_ (by assumption) ?_
  rotate_left
  · (intro w hSw; (try dsimp only at hSw); go_simp; all_goals with_reducible rfl)
  try simp only [Act.put, sA, sB, sC]
  refine tkH 3 ⟨some 6, _, _, _, _, _⟩ ?_ rfl ?_ (by assumption) ?_
  rotate_left
  · (intro w hSw; (try dsimp only at hSw); go_simp; all_goals with_reducible rfl)
  try simp only [Act.put, sA, sB, sC]
  refine tkH 4 ⟨some 7, _, _, _, _, _⟩ ?_ rfl ?_ (by assumption) ?_
  rotate_left
  · (intro w hSw; (try dsimp only at hSw); go_simp; all_goals with_reducible rfl)
  try simp only [Act.put, sA, sB, sC]
  refine tkH 6 ⟨some 9, _, _, _, _, _⟩ ?_ rfl ?_ (by assumption) ?_
  rotate_left
  · (intro w hSw; (try dsimp only at hSw); go_simp; all_goals with_reducible rfl)
  try simp only [Act.put, sA, sB, sC]
  refine tkH 7 ⟨some 10, _, _, _, _, _⟩ ?_ rfl ?_ (by assumption) ?_
  rotate_left
  · (intro w hSw; (try dsimp only at hSw); go_simp; all_goals with_reducible rfl)
  try simp only [Act.put, sA, sB, sC]
  refine wpAnyH_ready (rs := [2]) (by kernel_rfl) (by simp) ?_
  refine AllReadyH.cons rfl (fun K hK => ?_) AllReadyH.nil
  go_simp
  refine (cRange_any _ _ _ _).mono ?_
  rintro e w' ⟨rfl, rfl⟩
  go_wp2_with fail
  refine hK.out _ _ (by simp [go_sem, World.cell?_alloc_past, *]) (fun hHeld => ?_)
  clear hK K
  try simp only [Act.put, sA, sB, sC]
  refine wpAnyH_ready (rs := [5]) (by kernel_rfl) (by simp) ?_
  refine AllReadyH.cons rfl (fun K hK => ?_) AllReadyH.nil
  go_simp
  refine (cRange_any _ _ _ _).mono ?_
  rintro e w' ⟨rfl, rfl⟩
  go_wp2_with fail
  refine hK.out _ _ (by simp [go_sem, World.cell?_alloc_past, *]) (fun hHeld => ?_)
  clear hK K
  try simp only [Act.put, sA, sB, sC]
  refine wpAnyH_ready (rs := [8]) (by kernel_rfl) (by simp) ?_
  refine AllReadyH.cons rfl (fun K hK => ?_) AllReadyH.nil
  go_simp
  refine (checkAngle_any _ _).mono ?_
  rintro e w' ⟨rfl, rfl⟩
  go_wp2_with fail
  refine hK.out _ _ (by simp [go_sem, World.cell?_alloc_past, *]) (fun hHeld => ?_)
  clear hK K
  try simp only [Act.put, sA, sB, sC]
  refine wpAnyH_ready (rs := [9]) (by kernel_rfl) (by simp) ?_
  refine AllReadyH.cons rfl (fun K hK => ?_) AllReadyH.nil
  go_simp
  go_wp2_with fail
  refine hK.out _ _ (by simp [go_sem, World.cell?_alloc_past, *]) (fun hHeld => ?_)
  clear hK K
  try simp only [Act.put, sA, sB, sC]
  refine wpAnyH_ready (rs := [10]) (by kernel_rfl) (by simp) ?_
  refine AllReadyH.cons rfl (fun K hK => ?_) AllReadyH.nil
  go_simp
  refine (cF3x _ _ _ E _ _ hE (by simp [go_sem]) (by simp [go_sem]) (by simp [go_sem])).mono ?_
  rintro e w' ⟨rfl, rfl⟩
  go_wp2_with fail
  refine hK.out _ _ (by simp [go_sem, World.cell?_alloc_past, *]) (fun hHeld => ?_)
  clear hK K
  try simp only [Act.put, sA, sB, sC]
  refine tkH 11 ⟨some 2, _, _, _, _, _⟩ ?_ rfl ?_ (by assumption) ?_
  rotate_left
  · (intro w hSw; (try dsimp only at hSw); go_simp; all_goals with_reducible rfl)
  try simp only [Act.put, sA, sB, sC]
  refine wpAnyH_done (by kernel_rfl) ?_ _
  go_wp2
  go_ret
  exact ⟨rfl, (by (repeat (first | (with_reducible refine Below.drew ?_) | (with_reducible refine below_drewN ?_ _) | (with_reducible refine Below.alloc ?_ (by first | omega | (simp; done) | (simp; omega) | (simp at *; omega)) _) | (with_reducible refine Below.setCell ?_ (by first | omega | (simp; done) | (simp; omega) | (simp at *; omega)) _) | (with_reducible exact Below.refl _ _) | (with_reducible assumption) | (with_reducible refine Below.trans ?_ (Below.mono (by assumption) (by first | omega | (simp; done) | (simp; omega) | (simp at *; omega)))))))⟩
/-- The number of an element, and its error. -/
def NumP (E : Int) (w : World) (e : Ending) (w' : World) : Prop := ∃ n : Int, e = .returned (.tuple #[.int .i64 n, .int .i64 E]) ∧ Below w.heap.size w w'
theorem eachWave1_is (i h p f F : Int) (c : Nat) (w : World) (hc : w.cell? ⟨c, 0, none⟩ = some (.func (.func 107) #[] #[])) (hcl : c < w.heap.size) (hF : Hid (wvE ⟨h, p, f⟩ = F)) :
    Calls Tryz.prog 136 #[.int .i64 i, .agg #[.int .i64 h, .int .i64 p, .int .i64 f], .pointer (some ⟨c, 0, none⟩)] w fun e w' => e = .returned (.int .i64 F) ∧ Below w.heap.size w w' := by
  have o1 : c ≠ w.heap.size := by omega
  have o2 : w.heap.size ≠ c := by omega
  go_enter Tryz.func136, Tryz.ntmps136
  go_wp2_with fail
  refine (checkWave_any h p f F _ hF).mono ?_
  rintro e w1 ⟨rfl, hb1⟩
  have hB1 : Below w.heap.size w w1 := (by (repeat (first | (with_reducible refine Below.drew ?_) | (with_reducible refine below_drewN ?_ _) | (with_reducible refine Below.alloc ?_ (by first | omega | (simp; done) | (simp; omega) | (simp at *; omega)) _) | (with_reducible refine Below.setCell ?_ (by first | omega | (simp; done) | (simp; omega) | (simp at *; omega)) _) | (with_reducible exact Below.refl _ _) | (with_reducible assumption) | (with_reducible refine Below.trans ?_ (Below.mono (by assumption) (by first | omega | (simp; done) | (simp; omega) | (simp at *; omega)))))))
  clear hb1
  go_wp2
  go_ret
  exact ⟨rfl, hB1⟩
set_option maxRecDepth 100000 in
set_option maxHeartbeats 1000000 in
theorem numWave_any (L : List Wv) (A : Option Addr) (cap c n : Nat) (E : Int) (w : World) (hn : Hid (n = L.length)) (hl : n ≤ 1000000) (hL : SlRows wvV 3 w A L) (hc : w.cell? ⟨c, 0, none⟩ = some (.func (.func 107) #[] #[])) (hcl : c < w.heap.size) (hE : Hid (fstE wvE L = E)) :
    Calls Tryz.prog 135 #[.slice A n cap, .func (.func 136) #[] #[.pointer (some ⟨c, 0, none⟩)]] w (NumP E w) := by
  have HP : Hid (∀ w' : World, Below w.heap.size w w' → SlRows wvV 3 w' A L) := Lib.hid fun w' hB => hL.below hB
  have HC := Lib.hid hc
  clear hL hc
  go_enter Tryz.func135, Tryz.ntmps135
  go_wp2
  go_loopw [11] (fun i wr => ∃ k : Nat, k ≤ n ∧ i = .int .i64 k ∧ Hid (∀ j, (hj : j < k) → (hj' : j < L.length) → wvE L[j] = 0) ∧ Below w.heap.size w wr) (fun i _ => n - (intOf i).toNat)
  case atStart => exact ⟨0, by omega, rfl, fun j hj => by omega, (by (repeat (first | (with_reducible refine Below.drew ?_) | (with_reducible refine below_drewN ?_ _) | (with_reducible refine Below.alloc ?_ (by first | omega | (simp; done) | (simp; omega) | (simp at *; omega)) _) | (with_reducible refine Below.setCell ?_ (by first | omega | (simp; done) | (simp; omega) | (simp at *; omega)) _) | (with_reducible exact Below.refl _ _) | (with_reducible assumption) | (with_reducible refine Below.trans ?_ (Below.mono (by assumption) (by first | omega | (simp; done) | (simp; omega) | (simp at *; omega)))))))⟩
  case round =>
    obtain ⟨k, hk, rfl, hz, hB⟩ := hrel
    by_cases hkn : k < n
    · have hkl : k < L.length := by have := hn.out; omega
      have kn : (k : Int) < (n : Int) := by omega
      rcases HP.out _ hB with h0 | ⟨b, off, rfl, hlt, hR⟩
      · rw [h0] at hkl; simp at hkl
      obtain ⟨c0, c1, c2⟩ := wv_at hR hkl
      have hsz := hB.size
      have cw := (hB.cell (p := ⟨c, 0, none⟩) hcl).trans HC.out
      have hcw : c < wr.heap.size := by omega
      have CW : Hid (∀ v : Obj, (wr.alloc v).cell? ⟨c, 0, none⟩ = some (.func (.func 107) #[] #[]) ∧ c < (wr.alloc v).heap.size) := Lib.hid fun v => ⟨(((Below.refl wr.heap.size wr).alloc (Nat.le_refl _) v).cell (p := ⟨c, 0, none⟩) hcw).trans cw, by simp; omega⟩
      obtain ⟨⟨p0, p1, p2⟩, h0⟩ : ∃ x, Hid (L[k] = x) := ⟨L[k], Lib.hid rfl⟩
      rw [h0.out] at c0 c1 c2
      dsimp only at c0 c1 c2
      obtain ⟨F, hF⟩ : ∃ F, Hid (wvE ⟨p0, p1, p2⟩ = F) := ⟨_, Lib.hid rfl⟩
      clear hR cw
      rcases ez2 F with ⟨hz0, hzb⟩ | ⟨hz0, hzb⟩
      · have hz2 : Hid (∀ j, (hj : j < k + 1) → (hj' : j < L.length) → wvE L[j] = 0) := fun j hj hj' => by
          by_cases e : j = k
          · subst e; rw [h0.out, hF.out]; exact hz0.out
          · exact hz.out j (by omega) hj'
        clear hz hz0
        go_wp2_with fail
        refine (eachWave1_is _ p0 p1 p2 F c _ (CW.out _).1 (CW.out _).2 hF).mono ?_
        rintro e w1 ⟨rfl, hb1⟩
        have hB1 : Below w.heap.size w w1 := (by (repeat (first | (with_reducible refine Below.drew ?_) | (with_reducible refine below_drewN ?_ _) | (with_reducible refine Below.alloc ?_ (by first | omega | (simp; done) | (simp; omega) | (simp at *; omega)) _) | (with_reducible refine Below.setCell ?_ (by first | omega | (simp; done) | (simp; omega) | (simp at *; omega)) _) | (with_reducible exact Below.refl _ _) | (with_reducible assumption) | (with_reducible refine Below.trans ?_ (Below.mono (by assumption) (by first | omega | (simp; done) | (simp; omega) | (simp at *; omega)))))))
        clear hb1
        go_wp2
        go_roundw
        case rel => exact ⟨k + 1, by omega, by go_num, hz2, hB1⟩
        case measure => simp [intOf]; omega
      · have hr : Hid (E = F) := Lib.hid (by
          have h1 : wvE L[k] ≠ 0 := by rw [h0.out, hF.out]; exact hz0.out
          have h2 := fstE_at hkl (fun j hj => hz.out j hj (by omega)) h1
          rw [h0.out, hF.out, hE.out] at h2
          exact h2)
        clear hz
        go_wp2_with fail
        refine (eachWave1_is _ p0 p1 p2 F c _ (CW.out _).1 (CW.out _).2 hF).mono ?_
        rintro e w1 ⟨rfl, hb1⟩
        have hB1 : Below w.heap.size w w1 := (by (repeat (first | (with_reducible refine Below.drew ?_) | (with_reducible refine below_drewN ?_ _) | (with_reducible refine Below.alloc ?_ (by first | omega | (simp; done) | (simp; omega) | (simp at *; omega)) _) | (with_reducible refine Below.setCell ?_ (by first | omega | (simp; done) | (simp; omega) | (simp at *; omega)) _) | (with_reducible exact Below.refl _ _) | (with_reducible assumption) | (with_reducible refine Below.trans ?_ (Below.mono (by assumption) (by first | omega | (simp; done) | (simp; omega) | (simp at *; omega)))))))
        clear hb1
        go_wp2
        go_ret2
        exact ⟨(k : Int), by rw [hr.out]; rfl, hB1⟩
    · have hkk : k = n := by omega
      have hr : Hid (E = 0) := Lib.hid (by rw [← hE.out]; exact fstE_z fun j hj => hz.out j (by have := hn.out; omega) hj)
      clear hz hkk
      go_wp2
      go_ret2
      exact ⟨0, by rw [hr.out]; rfl, hB⟩
theorem eachWave_any (L : List Wv) (A : Option Addr) (cap n : Nat) (E : Int) (w : World) (hn : Hid (n = L.length)) (hl : n ≤ 1000000) (hL : SlRows wvV 3 w A L) (hE : Hid (fstE wvE L = E)) :
    Calls Tryz.prog 106 #[.slice A n cap, .func (.func 107) #[] #[]] w fun e w' => e = .returned (.int .i64 E) ∧ Below w.heap.size w w' := by
  have HR : Hid (∀ w' : World, Below w.heap.size w w' → SlRows wvV 3 w' A L) := Lib.hid fun w' hB => hL.below hB
  clear hL
  go_enter Tryz.func106, Tryz.ntmps106
  go_wp2_with fail
  refine (numWave_any L A cap w.heap.size n E _ hn hl (HR.out _ (by (repeat (first | (with_reducible refine Below.drew ?_) | (with_reducible refine below_drewN ?_ _) | (with_reducible refine Below.alloc ?_ (by first | omega | (simp; done) | (simp; omega) | (simp at *; omega)) _) | (with_reducible refine Below.setCell ?_ (by first | omega | (simp; done) | (simp; omega) | (simp at *; omega)) _) | (with_reducible exact Below.refl _ _) | (with_reducible assumption) | (with_reducible refine Below.trans ?_ (Below.mono (by assumption) (by first | omega | (simp; done) | (simp; omega) | (simp at *; omega)))))))) (by simp [go_sem]) (by simp) hE).mono ?_
  rintro e w1 ⟨i, rfl, hb1⟩
  have hB1 : Below w.heap.size w w1 := (by (repeat (first | (with_reducible refine Below.drew ?_) | (with_reducible refine below_drewN ?_ _) | (with_reducible refine Below.alloc ?_ (by first | omega | (simp; done) | (simp; omega) | (simp at *; omega)) _) | (with_reducible refine Below.setCell ?_ (by first | omega | (simp; done) | (simp; omega) | (simp at *; omega)) _) | (with_reducible exact Below.refl _ _) | (with_reducible assumption) | (with_reducible refine Below.trans ?_ (Below.mono (by assumption) (by first | omega | (simp; done) | (simp; omega) | (simp at *; omega)))))))
  clear hb1
  go_wp2
  go_ret
  exact ⟨rfl, hB1⟩
set_option maxRecDepth 100000 in
set_option maxHeartbeats 1000000 in
theorem CheckTide_any (m : Int) (L : List Wv) (A : Option Addr) (cap : Nat) (E : Int) (w : World) (hl : L.length ≤ 1000000) (HL : Hid (SlRows wvV 3 w A L)) (hE : Hid (tidE m L = E)) :
    Calls Tryz.prog 65 #[.agg #[.int .i64 m, .slice A L.length cap]] w fun e w' => e = .returned (.int .i64 E) ∧ Below w.heap.size w w' := by
  have he := hE.out
  unfold tidE at he
  clear hE
  rcases inB_cases m (-100000) 100000 with h1 | h1
  · rw [if_pos h1] at he
    have hr := rngE_t h1
    by_cases h2 : L.length ≤ 10
    · rw [if_pos h2] at he
      have HE := Lib.hid he
      clear he
      have h3 : ¬ (10 : Int) < (L.length : Int) := by omega
      go_enter Tryz.func65, Tryz.ntmps65
      go_wp2_with (first | (go_at_call 87; ((with_reducible refine (cRange_any _ _ _ _).mono ?_)); rintro e w' ⟨rfl, rfl⟩) | (go_at_call 106; ((with_reducible refine (eachWave_any L _ _ L.length E _ (Lib.hid rfl) hl (HL.out.below (by (repeat (first | (with_reducible refine Below.drew ?_) | (with_reducible refine below_drewN ?_ _) | (with_reducible refine Below.alloc ?_ (by first | omega | (simp; done) | (simp; omega) | (simp at *; omega)) _) | (with_reducible refine Below.setCell ?_ (by first | omega | (simp; done) | (simp; omega) | (simp at *; omega)) _) | (with_reducible exact Below.refl _ _) | (with_reducible assumption) | (with_reducible refine Below.trans ?_ (Below.mono (by assumption) (by first | omega | (simp; done) | (simp; omega) | (simp at *; omega)))))))) HE).mono ?_)); rintro e w1 ⟨rfl, hbw⟩; obtain ⟨hbc, hbf⟩ := bcell hbw; have hbs := hbw.size))
      go_ret
      exact ⟨rfl, (by (repeat (first | (with_reducible refine Below.drew ?_) | (with_reducible refine below_drewN ?_ _) | (with_reducible refine Below.alloc ?_ (by first | omega | (simp; done) | (simp; omega) | (simp at *; omega)) _) | (with_reducible refine Below.setCell ?_ (by first | omega | (simp; done) | (simp; omega) | (simp at *; omega)) _) | (with_reducible exact Below.refl _ _) | (with_reducible assumption) | (with_reducible refine Below.trans ?_ (Below.mono (by assumption) (by first | omega | (simp; done) | (simp; omega) | (simp at *; omega)))))))⟩
    · rw [if_neg h2] at he
      have HE := Lib.hid he
      clear he
      have h3 : (10 : Int) < (L.length : Int) := by omega
      go_enter Tryz.func65, Tryz.ntmps65
      go_wp2_with ((go_at_call 87; ((with_reducible refine (cRange_any _ _ _ _).mono ?_)); rintro e w' ⟨rfl, rfl⟩))
      go_ret
      exact ⟨ret_int HE.out, (by (repeat (first | (with_reducible refine Below.drew ?_) | (with_reducible refine below_drewN ?_ _) | (with_reducible refine Below.alloc ?_ (by first | omega | (simp; done) | (simp; omega) | (simp at *; omega)) _) | (with_reducible refine Below.setCell ?_ (by first | omega | (simp; done) | (simp; omega) | (simp at *; omega)) _) | (with_reducible exact Below.refl _ _) | (with_reducible assumption) | (with_reducible refine Below.trans ?_ (Below.mono (by assumption) (by first | omega | (simp; done) | (simp; omega) | (simp at *; omega)))))))⟩
  · rw [h1, if_neg Bool.false_ne_true] at he
    have HE := Lib.hid he
    have hr := rngE_f h1
    clear he
    go_enter Tryz.func65, Tryz.ntmps65
    go_wp2_with ((go_at_call 87; ((with_reducible refine (cRange_any _ _ _ _).mono ?_)); rintro e w' ⟨rfl, rfl⟩))
    go_ret
    exact ⟨ret_int HE.out, (by (repeat (first | (with_reducible refine Below.drew ?_) | (with_reducible refine below_drewN ?_ _) | (with_reducible refine Below.alloc ?_ (by first | omega | (simp; done) | (simp; omega) | (simp at *; omega)) _) | (with_reducible refine Below.setCell ?_ (by first | omega | (simp; done) | (simp; omega) | (simp at *; omega)) _) | (with_reducible exact Below.refl _ _) | (with_reducible assumption) | (with_reducible refine Below.trans ?_ (Below.mono (by assumption) (by first | omega | (simp; done) | (simp; omega) | (simp at *; omega)))))))⟩
end Go.Proofs.YtojaompfffpofaaGreat
