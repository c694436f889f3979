import Derived.Test.YtojaompfffpofaaGreatZUSWIn
import Derived.Test.YtojaompfffpofaaGreatZUSHigh2
import Derived.Outline
namespace Go.Proofs.YtojaompfffpofaaGreat
open Go.ChangeShapes Go.WideShapes Go.ChangeAt Go.RowKit
set_option linter.unusedVariables false
set_option linter.unusedSimpArgs false
attribute [local go_sem ↓] Go.wp_at_zero Go.wp_at_succ
/-- Whether a current is slack at a minute, with the least answer that is wanted. -/
def slkG (m : Int) (L : List Wv) (l v : Int) (t : Int) : Bool := decide (v ≤ slkV (levLo m L t) (levHi m L t) l)
def lstV (s : Bool) : Int := if s = true then 2 else 1
def askE (m : Int) (L : List Wv) (l a b : Int) : Int := firE [tidE m L, rngE l 0 10000000, spnE a b]
theorem spnE_ok {a b : Int} (h : spnE a b = 0) : 0 ≤ a ∧ a ≤ b ∧ b ≤ 1000000 ∧ b - a < 3000 := by
  rcases spnE_cases a b with ⟨_, h1⟩ | ⟨_, _, h1⟩ | ⟨_, _, _, h1⟩ | ⟨_, _, _, _, h1⟩ | ⟨h1, h2, h3, h4, _⟩
  · omega
  · omega
  · omega
  · omega
  · rw [inB_iff] at h1 h2; omega
set_option maxRecDepth 100000 in
set_option maxHeartbeats 2000000 in
theorem slkC_is (m : Int) (L : List Wv) (A : Option Addr) (bt cap n c1 c2 c3 : Nat) (t l v : Int) (w : World) (hn : Hid (n = L.length)) (h10 : n ≤ 10) (HW : Hid (∀ x ∈ L, WvOk x)) (m0 : -100000 ≤ m) (m1 : m ≤ 100000) (t0 : 0 ≤ t) (t1 : t ≤ 2000000) (hbt : bt < w.heap.size) (HL : Hid (SlRows wvV 3 w A L))
    (cm : w.cell? ⟨bt, 0, none⟩ = some (.int .i64 m)) (cs : w.cell? ⟨bt, 1, none⟩ = some (.slice A n cap)) (HH : Hid (HvA w bt 2)) (l0 : 0 ≤ l) (l1 : l ≤ 10000000)
    (e1 : w.cell? ⟨c1, 0, none⟩ = some (.pointer (some ⟨bt, 0, none⟩))) (e2 : w.cell? ⟨c2, 0, none⟩ = some (.int .i64 l)) (e3 : w.cell? ⟨c3, 0, none⟩ = some (.int .i64 v)) (k1 : c1 < w.heap.size) (k2 : c2 < w.heap.size) (k3 : c3 < w.heap.size) :
    Calls Tryz.prog 70 #[.int .i64 t, .pointer (some ⟨c1, 0, none⟩), .pointer (some ⟨c2, 0, none⟩), .pointer (some ⟨c3, 0, none⟩)] w fun e w' => e = .returned (.bool (slkG m L l v t)) ∧ Below w.heap.size w w' := by
  have HR : Hid (∀ w' : World, Below w.heap.size w w' → SlRows wvV 3 w' A L) := Lib.hid fun w' hB => HL.out.below hB
  have HT : Hid (∀ w' : World, Below w.heap.size w w' → w'.cell? ⟨bt, 0, none⟩ = some (.int .i64 m) ∧ w'.cell? ⟨bt, 1, none⟩ = some (.slice A n cap) ∧ HvA w' bt 2) := Lib.hid fun w' hB => ⟨(hB.cell (p := ⟨bt, 0, none⟩) hbt).trans cm, (hB.cell (p := ⟨bt, 1, none⟩) hbt).trans cs, HH.out.below hB hbt⟩
  obtain ⟨q, hq⟩ : ∃ q, Hid (slkV (levLo m L t) (levHi m L t) l = q) := ⟨_, Lib.hid rfl⟩
  have hg : slkG m L l v t = decide (v ≤ q) := by unfold slkG; rw [hq.out]
  rw [hg]
  clear hg cm cs HH HL
  go_enter Tryz.func70, Tryz.ntmps70
  go_upto_region 1 with (fail)
  refine wp_region_held_drew (S := (fun w' => w'.cell? ⟨c1, 0, none⟩ = some (.pointer (some ⟨bt, 0, none⟩)) ∧ w'.cell? ⟨c2, 0, none⟩ = some (.int .i64 l) ∧ w'.cell? ⟨c3, 0, none⟩ = some (.int .i64 v))) (by kernel_rfl) (by simp [go_sem, World.cell?_alloc_past, *]) (fun hHeld => ?_)
  refine tkH 0 ⟨some 6, _, _, _, _, _⟩ ?_ rfl ?_ (by assumption) ?_
  rotate_left
  · (intro w hSw; (try dsimp only at hSw); go_simp; all_goals with_reducible rfl)
  try simp only [Act.put, sA, sB, sC]
  refine tkH 1 ⟨some 7, _, _, _, _, _⟩ ?_ rfl ?_ (by assumption) ?_
  rotate_left
  · (intro w hSw; (try dsimp only at hSw); go_simp; all_goals with_reducible rfl)
  try simp only [Act.put, sA, sB, sC]
  refine tkH 2 ⟨some 8, _, _, _, _, _⟩ ?_ rfl ?_ (by assumption) ?_
  rotate_left
  · (intro w hSw; (try dsimp only at hSw); go_simp; all_goals with_reducible rfl)
  try simp only [Act.put, sA, sB, sC]
  refine tkH 3 ⟨some 9, _, _, _, _, _⟩ ?_ rfl ?_ (by assumption) ?_
  rotate_left
  · (intro w hSw; (try dsimp only at hSw); go_simp; all_goals with_reducible rfl)
  try simp only [Act.put, sA, sB, sC]
  refine tkH 5 ⟨some 11, _, _, _, _, _⟩ ?_ rfl ?_ (by assumption) ?_
  rotate_left
  · (intro w hSw; (try dsimp only at hSw); go_simp; all_goals with_reducible rfl)
  try simp only [Act.put, sA, sB, sC]
  refine wpAnyH_ready (rs := [4]) (by kernel_rfl) (by simp) ?_
  refine AllReadyH.cons rfl (fun K hK => ?_) AllReadyH.nil
  go_simp
  have tt0 := HT.out w.drew (Below.refl _ _).drew
  refine (slack_is m L A bt cap n (levLo m L t) (levHi m L t) t l q _ hn h10 HW m0 m1 t0 t1 (by simpa using hbt) (Lib.hid (HR.out _ (Below.refl _ _).drew)) tt0.1 tt0.2.1 (Lib.hid tt0.2.2) (Lib.hid rfl) (Lib.hid rfl) l0 l1 hq).mono ?_
  rintro e xw1 ⟨rfl, hbx1⟩
  have zx1 := hbx1.size
  try simp at zx1
  obtain ⟨x1_0_0, x1_1_0, x1_2_0⟩ : xw1.cell? ⟨c1, 0, none⟩ = some (.pointer (some ⟨bt, 0, none⟩)) ∧ xw1.cell? ⟨c2, 0, none⟩ = some (.int .i64 l) ∧ xw1.cell? ⟨c3, 0, none⟩ = some (.int .i64 v) := by refine ⟨?_, ?_, ?_⟩ <;> (rw [(bcell hbx1).1 _ _ (by first | (simp; done) | (simp; omega) | omega)]; simp [go_sem, World.cell?_alloc_past, *])
  obtain ⟨x1o0, x1n0, x1o1, x1n1, x1o2, x1n2⟩ : c1 < xw1.heap.size ∧ xw1.heap.size ≠ c1 ∧ c2 < xw1.heap.size ∧ xw1.heap.size ≠ c2 ∧ c3 < xw1.heap.size ∧ xw1.heap.size ≠ c3 := by refine ⟨?_, ?_, ?_, ?_, ?_, ?_⟩ <;> omega
  have hBx1 : Below w.heap.size w xw1 := (by (repeat (first | (with_reducible refine Below.drew ?_) | (with_reducible refine below_drewN ?_ _) | (with_reducible refine Below.alloc ?_ (by first | omega | (simp; done) | (simp; omega) | (simp at *; omega)) _) | (with_reducible refine Below.setCell ?_ (by first | omega | (simp; done) | (simp; omega) | (simp at *; omega)) _) | (with_reducible exact Below.refl _ _) | (with_reducible assumption) | (with_reducible refine Below.trans ?_ (Below.mono (by assumption) (by first | omega | (simp; done) | (simp; omega) | (simp at *; omega)))))))
  clear tt0
  clear hbx1 
  go_wp2_with fail
  refine hK.out _ _ (by simp [go_sem, World.cell?_alloc_past, *]) (fun hHeld => ?_)
  clear hK K
  try simp only [Act.put, sA, sB, sC]
  refine tkH 6 ⟨some 12, _, _, _, _, _⟩ ?_ rfl ?_ (by assumption) ?_
  rotate_left
  · (intro w hSw; (try dsimp only at hSw); go_simp; all_goals with_reducible rfl)
  try simp only [Act.put, sA, sB, sC]
  refine tkH 7 ⟨some 5, _, _, _, _, _⟩ ?_ rfl ?_ (by assumption) ?_
  rotate_left
  · (intro w hSw; (try dsimp only at hSw); go_simp; all_goals with_reducible rfl)
  try simp only [Act.put, sA, sB, sC]
  refine wpAnyH_done (by kernel_rfl) ?_ _
  go_wp2
  go_ret
  exact ⟨rfl, (by (repeat (first | (with_reducible refine Below.drew ?_) | (with_reducible refine below_drewN ?_ _) | (with_reducible refine Below.alloc ?_ (by first | omega | (simp; done) | (simp; omega) | (simp at *; omega)) _) | (with_reducible refine Below.setCell ?_ (by first | omega | (simp; done) | (simp; omega) | (simp at *; omega)) _) | (with_reducible exact Below.refl _ _) | (with_reducible assumption) | (with_reducible refine Below.trans ?_ (Below.mono (by assumption) (by first | omega | (simp; done) | (simp; omega) | (simp at *; omega)))))))⟩
set_option maxRecDepth 100000 in
set_option maxHeartbeats 4000000 in
theorem SlackWindows_bad (m : Int) (L : List Wv) (A : Option Addr) (cap n : Nat) (l a b E : Int) (s : Bool) (w : World) (hn : Hid (n = L.length)) (hl : n ≤ 1000000) (HL : Hid (SlRows wvV 3 w A L)) (hE0 : Hid (askE m L l a b = E)) (hz : (E != 0) = true) :
    Calls Tryz.prog 14 #[.agg #[.int .i64 m, .slice A n cap], .agg #[.int .i64 l, .int .i64 a, .int .i64 b, .bool s]] w fun e w' => e = .returned (.tuple #[.slice none 0 0, .int .i64 E]) ∧ Below w.heap.size w w' := by
  obtain ⟨F, hF⟩ : ∃ z, Hid (tidE m L = z) := ⟨_, Lib.hid rfl⟩
  obtain ⟨G, hG⟩ : ∃ z, Hid (rngE l 0 10000000 = z) := ⟨_, Lib.hid rfl⟩
  obtain ⟨H, hH⟩ : ∃ z, Hid (spnE a b = z) := ⟨_, Lib.hid rfl⟩
  have hE : Hid (firE [F, G, H] = E) := Lib.hid (by rw [← hF.out, ← hG.out, ← hH.out]; exact hE0.out)
  have HR : Hid (∀ w' : World, Below w.heap.size w w' → SlRows wvV 3 w' A L) := Lib.hid fun w' hB => HL.out.below hB
  clear hE0
  go_enter Tryz.func14, Tryz.ntmps14
  go_upto_region 1 with (fail)
  refine wp_region_held_drew (S := (fun w' => w'.cell? ⟨w.heap.size, 0, none⟩ = some (.int .i64 m) ∧ w'.cell? ⟨w.heap.size, 1, none⟩ = some (.slice A n cap) ∧ w'.cell? ⟨w.heap.size + 1, 0, none⟩ = some (.int .i64 l) ∧ w'.cell? ⟨w.heap.size + 1, 1, none⟩ = some (.int .i64 a) ∧ w'.cell? ⟨w.heap.size + 1, 2, none⟩ = some (.int .i64 b))) (by kernel_rfl) (by simp [go_sem, World.cell?_alloc_past, *]) (fun hHeld => ?_)
  refine tkH 0 ⟨some 9, _, _, _, _, _⟩ ?_ rfl ?_ (by assumption) ?_
  rotate_left
  · (intro w hSw; (try dsimp only at hSw); go_simp; all_goals with_reducible rfl)
  try simp only [Act.put, sA, sB, sC]
  refine tkH 2 ⟨some 11, _, _, _, _, _⟩ ?_ rfl ?_ (by assumption) ?_
  rotate_left
  · (intro w hSw; (try dsimp only at hSw); go_simp; all_goals with_reducible rfl)
  try simp only [Act.put, sA, sB, sC]
  refine tkH 3 ⟨some 12, _, _, _, _, _⟩ ?_ rfl ?_ (by assumption) ?_
  rotate_left
  · (intro w hSw; (try dsimp only at hSw); go_simp; all_goals with_reducible rfl)
  try simp only [Act.put, sA, sB, sC]
  refine tkH 5 ⟨some 14, _, _, _, _, _⟩ ?_ rfl ?_ (by assumption) ?_
  rotate_left
  · (intro w hSw; (try dsimp only at hSw); go_simp; all_goals with_reducible rfl)
  try simp only [Act.put, sA, sB, sC]
  refine tkH 6 ⟨some 15, _, _, _, _, _⟩ ?_ rfl ?_ (by assumption) ?_
  rotate_left
  · (intro w hSw; (try dsimp only at hSw); go_simp; all_goals with_reducible rfl)
  try simp only [Act.put, sA, sB, sC]
  refine wpAnyH_ready (rs := [1]) (by kernel_rfl) (by simp) ?_
  refine AllReadyH.cons rfl (fun K hK => ?_) AllReadyH.nil
  go_simp
  refine (CheckTide_is m L A cap n F _ hn hl (Lib.hid (HR.out _ (by (repeat (first | (with_reducible refine Below.drew ?_) | (with_reducible refine below_drewN ?_ _) | (with_reducible refine Below.alloc ?_ (by first | omega | (simp; done) | (simp; omega) | (simp at *; omega)) _) | (with_reducible refine Below.setCell ?_ (by first | omega | (simp; done) | (simp; omega) | (simp at *; omega)) _) | (with_reducible exact Below.refl _ _) | (with_reducible assumption) | (with_reducible refine Below.trans ?_ (Below.mono (by assumption) (by first | omega | (simp; done) | (simp; omega) | (simp at *; omega))))))))) hF).mono ?_
  rintro e xw1 ⟨rfl, hbx1⟩
  have zx1 := hbx1.size
  try simp at zx1
  obtain ⟨x1_0_0, x1_0_1, x1_1_0, x1_1_1, x1_1_2, x1_1_3⟩ : xw1.cell? ⟨w.heap.size, 0, none⟩ = some (.int .i64 m) ∧ xw1.cell? ⟨w.heap.size, 1, none⟩ = some (.slice A n cap) ∧ xw1.cell? ⟨w.heap.size + 1, 0, none⟩ = some (.int .i64 l) ∧ xw1.cell? ⟨w.heap.size + 1, 1, none⟩ = some (.int .i64 a) ∧ xw1.cell? ⟨w.heap.size + 1, 2, none⟩ = some (.int .i64 b) ∧ xw1.cell? ⟨w.heap.size + 1, 3, none⟩ = some (.bool s) := by refine ⟨?_, ?_, ?_, ?_, ?_, ?_⟩ <;> (rw [(bcell hbx1).1 _ _ (by first | (simp; done) | (simp; omega) | omega)]; simp [go_sem, World.cell?_alloc_past, *])
  obtain ⟨x1o0, x1n0, x1m0, x1t0_0, x1o1, x1n1, x1m1, x1t1_0⟩ : w.heap.size < xw1.heap.size ∧ xw1.heap.size ≠ w.heap.size ∧ w.heap.size ≠ xw1.heap.size ∧ w.heap.size < xw1.heap.size + 1 ∧ w.heap.size + 1 < xw1.heap.size ∧ xw1.heap.size ≠ w.heap.size + 1 ∧ w.heap.size + 1 ≠ xw1.heap.size ∧ w.heap.size + 1 < xw1.heap.size + 1 := by refine ⟨?_, ?_, ?_, ?_, ?_, ?_, ?_, ?_⟩ <;> omega
  have hBx1 : Below w.heap.size w xw1 := (by (repeat (first | (with_reducible refine Below.drew ?_) | (with_reducible refine below_drewN ?_ _) | (with_reducible refine Below.alloc ?_ (by first | omega | (simp; done) | (simp; omega) | (simp at *; omega)) _) | (with_reducible refine Below.setCell ?_ (by first | omega | (simp; done) | (simp; omega) | (simp at *; omega)) _) | (with_reducible exact Below.refl _ _) | (with_reducible assumption) | (with_reducible refine Below.trans ?_ (Below.mono (by assumption) (by first | omega | (simp; done) | (simp; omega) | (simp at *; omega)))))))
  clear hbx1 
  go_wp2_with fail
  refine hK.out _ _ (by simp [go_sem, World.cell?_alloc_past, *]) (fun hHeld => ?_)
  clear hK K
  try simp only [Act.put, sA, sB, sC]
  refine wpAnyH_ready (rs := [4]) (by kernel_rfl) (by simp) ?_
  refine AllReadyH.cons rfl (fun K hK => ?_) AllReadyH.nil
  go_simp
  refine (checkLimit_is l G _ hG).mono ?_
  rintro e w' ⟨rfl, rfl⟩
  go_wp2_with fail
  refine hK.out _ _ (by simp [go_sem, World.cell?_alloc_past, *]) (fun hHeld => ?_)
  clear hK K
  try simp only [Act.put, sA, sB, sC]
  refine wpAnyH_ready (rs := [7]) (by kernel_rfl) (by simp) ?_
  refine AllReadyH.cons rfl (fun K hK => ?_) AllReadyH.nil
  go_simp
  refine (checkSpan_is a b H _ hH).mono ?_
  rintro e xw2 ⟨rfl, hbx2⟩
  have zx2 := hbx2.size
  try simp at zx2
  obtain ⟨x2_0_0, x2_0_1, x2_1_0, x2_1_1, x2_1_2, x2_1_3⟩ : xw2.cell? ⟨w.heap.size, 0, none⟩ = some (.int .i64 m) ∧ xw2.cell? ⟨w.heap.size, 1, none⟩ = some (.slice A n cap) ∧ xw2.cell? ⟨w.heap.size + 1, 0, none⟩ = some (.int .i64 l) ∧ xw2.cell? ⟨w.heap.size + 1, 1, none⟩ = some (.int .i64 a) ∧ xw2.cell? ⟨w.heap.size + 1, 2, none⟩ = some (.int .i64 b) ∧ xw2.cell? ⟨w.heap.size + 1, 3, none⟩ = some (.bool s) := by refine ⟨?_, ?_, ?_, ?_, ?_, ?_⟩ <;> (rw [(bcell hbx2).1 _ _ (by first | (simp; done) | (simp; omega) | omega)]; simp [go_sem, World.cell?_alloc_past, *])
  obtain ⟨x2o0, x2n0, x2m0, x2t0_0, x2o1, x2n1, x2m1, x2t1_0⟩ : w.heap.size < xw2.heap.size ∧ xw2.heap.size ≠ w.heap.size ∧ w.heap.size ≠ xw2.heap.size ∧ w.heap.size < xw2.heap.size + 1 ∧ w.heap.size + 1 < xw2.heap.size ∧ xw2.heap.size ≠ w.heap.size + 1 ∧ w.heap.size + 1 ≠ xw2.heap.size ∧ w.heap.size + 1 < xw2.heap.size + 1 := by refine ⟨?_, ?_, ?_, ?_, ?_, ?_, ?_, ?_⟩ <;> omega
  have hBx2 : Below w.heap.size w xw2 := (by (repeat (first | (with_reducible refine Below.drew ?_) | (with_reducible refine below_drewN ?_ _) | (with_reducible refine Below.alloc ?_ (by first | omega | (simp; done) | (simp; omega) | (simp at *; omega)) _) | (with_reducible refine Below.setCell ?_ (by first | omega | (simp; done) | (simp; omega) | (simp at *; omega)) _) | (with_reducible exact Below.refl _ _) | (with_reducible assumption) | (with_reducible refine Below.trans ?_ (Below.mono (by assumption) (by first | omega | (simp; done) | (simp; omega) | (simp at *; omega)))))))
  clear hbx2 x1_0_0 x1_0_1 x1_1_0 x1_1_1 x1_1_2 x1_1_3 x1o0 x1n0 x1m0 x1t0_0 x1o1 x1n1 x1m1 x1t1_0 hBx1
  go_wp2_with fail
  refine hK.out _ _ (by simp [go_sem, World.cell?_alloc_past, *]) (fun hHeld => ?_)
  clear hK K
  try simp only [Act.put, sA, sB, sC]
  refine wpAnyH_ready (rs := [8]) (by kernel_rfl) (by simp) ?_
  refine AllReadyH.cons rfl (fun K hK => ?_) AllReadyH.nil
  go_simp
  go_wp2_with fail
  refine hK.out _ _ (by simp [go_sem, World.cell?_alloc_past, *]) (fun hHeld => ?_)
  clear hK K
  try simp only [Act.put, sA, sB, sC]
  refine wpAnyH_ready (rs := [9]) (by kernel_rfl) (by simp) ?_
  refine AllReadyH.cons rfl (fun K hK => ?_) AllReadyH.nil
  go_simp
  refine (cF3y F G H E _ _ hE (by simp [go_sem]) (by simp [go_sem]) (by simp [go_sem])).mono ?_
  rintro e w' ⟨rfl, rfl⟩
  go_wp2_with fail
  refine hK.out _ _ (by simp [go_sem, World.cell?_alloc_past, *]) (fun hHeld => ?_)
  clear hK K
  try simp only [Act.put, sA, sB, sC]
  refine tkH 10 ⟨some 6, _, _, _, _, _⟩ ?_ rfl ?_ (by assumption) ?_
  rotate_left
  · (intro w hSw; (try dsimp only at hSw); go_simp; all_goals with_reducible rfl)
  try simp only [Act.put, sA, sB, sC]
  refine wpAnyH_done (by kernel_rfl) ?_ _
  go_wp2
  go_ret2
  exact ⟨rfl, (by (repeat (first | (with_reducible refine Below.drew ?_) | (with_reducible refine below_drewN ?_ _) | (with_reducible refine Below.alloc ?_ (by first | omega | (simp; done) | (simp; omega) | (simp at *; omega)) _) | (with_reducible refine Below.setCell ?_ (by first | omega | (simp; done) | (simp; omega) | (simp at *; omega)) _) | (with_reducible exact Below.refl _ _) | (with_reducible assumption) | (with_reducible refine Below.trans ?_ (Below.mono (by assumption) (by first | omega | (simp; done) | (simp; omega) | (simp at *; omega)))))))⟩
set_option maxRecDepth 100000 in
set_option maxHeartbeats 4000000 in
theorem SlackWindows_good (m : Int) (L : List Wv) (A : Option Addr) (cap n N : Nat) (l a b : Int) (s : Bool) (w : World) (hn : Hid (n = L.length)) (hl : n ≤ 1000000) (HL : Hid (SlRows wvV 3 w A L)) (hE0 : Hid (askE m L l a b = 0)) (hN : Hid ((N : Int) = b - a + 1)) :
    Calls Tryz.prog 14 #[.agg #[.int .i64 m, .slice A n cap], .agg #[.int .i64 l, .int .i64 a, .int .i64 b, .bool s]] w (WofQ (rwL a (fun k => slkG m L l (lstV s) (a + (k : Int))) N) w) := by
  obtain ⟨z1, z2, z3⟩ := firE3s hE0.out
  obtain ⟨m0, m1, h10', hW⟩ := tidE_ok z1
  obtain ⟨l0, l1⟩ := rngE_0 z2
  obtain ⟨a0, ab, b1, hs3⟩ := spnE_ok z3
  have h10 : n ≤ 10 := by rw [hn.out]; exact h10'
  have HW := Lib.hid hW
  obtain ⟨F, hF⟩ : ∃ z, Hid (tidE m L = z) := ⟨_, Lib.hid rfl⟩
  obtain ⟨G, hG⟩ : ∃ z, Hid (rngE l 0 10000000 = z) := ⟨_, Lib.hid rfl⟩
  obtain ⟨H, hH⟩ : ∃ z, Hid (spnE a b = z) := ⟨_, Lib.hid rfl⟩
  obtain ⟨E, hE1⟩ : ∃ E : Int, E = 0 := ⟨0, rfl⟩
  have hE : Hid (firE [F, G, H] = E) := Lib.hid (by rw [← hF.out, ← hG.out, ← hH.out, hE1]; exact hE0.out)
  have hz : (E != 0) = false := by rw [hE1]; rfl
  have HR : Hid (∀ w' : World, Below w.heap.size w w' → SlRows wvV 3 w' A L) := Lib.hid fun w' hB => HL.out.below hB
  clear hE0 z1 z2 z3 hW h10' hE1
  go_enter Tryz.func14, Tryz.ntmps14
  go_upto_region 1 with (fail)
  refine wp_region_held_drew (S := (fun w' => w'.cell? ⟨w.heap.size, 0, none⟩ = some (.int .i64 m) ∧ w'.cell? ⟨w.heap.size, 1, none⟩ = some (.slice A n cap) ∧ w'.cell? ⟨w.heap.size + 1, 0, none⟩ = some (.int .i64 l) ∧ w'.cell? ⟨w.heap.size + 1, 1, none⟩ = some (.int .i64 a) ∧ w'.cell? ⟨w.heap.size + 1, 2, none⟩ = some (.int .i64 b))) (by kernel_rfl) (by simp [go_sem, World.cell?_alloc_past, *]) (fun hHeld => ?_)
  refine tkH 0 ⟨some 9, _, _, _, _, _⟩ ?_ rfl ?_ (by assumption) ?_
  rotate_left
  · (intro w hSw; (try dsimp only at hSw); go_simp; all_goals with_reducible rfl)
  try simp only [Act.put, sA, sB, sC]
  refine tkH 2 ⟨some 11, _, _, _, _, _⟩ ?_ rfl ?_ (by assumption) ?_
  rotate_left
  · (intro w hSw; (try dsimp only at hSw); go_simp; all_goals with_reducible rfl)
  try simp only [Act.put, sA, sB, sC]
  refine tkH 3 ⟨some 12, _, _, _, _, _⟩ ?_ rfl ?_ (by assumption) ?_
  rotate_left
  · (intro w hSw; (try dsimp only at hSw); go_simp; all_goals with_reducible rfl)
  try simp only [Act.put, sA, sB, sC]
  refine tkH 5 ⟨some 14, _, _, _, _, _⟩ ?_ rfl ?_ (by assumption) ?_
  rotate_left
  · (intro w hSw; (try dsimp only at hSw); go_simp; all_goals with_reducible rfl)
  try simp only [Act.put, sA, sB, sC]
  refine tkH 6 ⟨some 15, _, _, _, _, _⟩ ?_ rfl ?_ (by assumption) ?_
  rotate_left
  · (intro w hSw; (try dsimp only at hSw); go_simp; all_goals with_reducible rfl)
  try simp only [Act.put, sA, sB, sC]
  refine wpAnyH_ready (rs := [1]) (by kernel_rfl) (by simp) ?_
  refine AllReadyH.cons rfl (fun K hK => ?_) AllReadyH.nil
  go_simp
  refine (CheckTide_is m L A cap n F _ hn hl (Lib.hid (HR.out _ (by (repeat (first | (with_reducible refine Below.drew ?_) | (with_reducible refine below_drewN ?_ _) | (with_reducible refine Below.alloc ?_ (by first | omega | (simp; done) | (simp; omega) | (simp at *; omega)) _) | (with_reducible refine Below.setCell ?_ (by first | omega | (simp; done) | (simp; omega) | (simp at *; omega)) _) | (with_reducible exact Below.refl _ _) | (with_reducible assumption) | (with_reducible refine Below.trans ?_ (Below.mono (by assumption) (by first | omega | (simp; done) | (simp; omega) | (simp at *; omega))))))))) hF).mono ?_
  rintro e xw1 ⟨rfl, hbx1⟩
  have zx1 := hbx1.size
  try simp at zx1
  obtain ⟨x1_0_0, x1_0_1, x1_1_0, x1_1_1, x1_1_2, x1_1_3⟩ : xw1.cell? ⟨w.heap.size, 0, none⟩ = some (.int .i64 m) ∧ xw1.cell? ⟨w.heap.size, 1, none⟩ = some (.slice A n cap) ∧ xw1.cell? ⟨w.heap.size + 1, 0, none⟩ = some (.int .i64 l) ∧ xw1.cell? ⟨w.heap.size + 1, 1, none⟩ = some (.int .i64 a) ∧ xw1.cell? ⟨w.heap.size + 1, 2, none⟩ = some (.int .i64 b) ∧ xw1.cell? ⟨w.heap.size + 1, 3, none⟩ = some (.bool s) := by refine ⟨?_, ?_, ?_, ?_, ?_, ?_⟩ <;> (rw [(bcell hbx1).1 _ _ (by first | (simp; done) | (simp; omega) | omega)]; simp [go_sem, World.cell?_alloc_past, *])
  obtain ⟨x1o0, x1n0, x1m0, x1t0_0, x1o1, x1n1, x1m1, x1t1_0⟩ : w.heap.size < xw1.heap.size ∧ xw1.heap.size ≠ w.heap.size ∧ w.heap.size ≠ xw1.heap.size ∧ w.heap.size < xw1.heap.size + 1 ∧ w.heap.size + 1 < xw1.heap.size ∧ xw1.heap.size ≠ w.heap.size + 1 ∧ w.heap.size + 1 ≠ xw1.heap.size ∧ w.heap.size + 1 < xw1.heap.size + 1 := by refine ⟨?_, ?_, ?_, ?_, ?_, ?_, ?_, ?_⟩ <;> omega
  have hBx1 : Below w.heap.size w xw1 := (by (repeat (first | (with_reducible refine Below.drew ?_) | (with_reducible refine below_drewN ?_ _) | (with_reducible refine Below.alloc ?_ (by first | omega | (simp; done) | (simp; omega) | (simp at *; omega)) _) | (with_reducible refine Below.setCell ?_ (by first | omega | (simp; done) | (simp; omega) | (simp at *; omega)) _) | (with_reducible exact Below.refl _ _) | (with_reducible assumption) | (with_reducible refine Below.trans ?_ (Below.mono (by assumption) (by first | omega | (simp; done) | (simp; omega) | (simp at *; omega)))))))
  clear hbx1 
  go_wp2_with fail
  refine hK.out _ _ (by simp [go_sem, World.cell?_alloc_past, *]) (fun hHeld => ?_)
  clear hK K
  try simp only [Act.put, sA, sB, sC]
  refine wpAnyH_ready (rs := [4]) (by kernel_rfl) (by simp) ?_
  refine AllReadyH.cons rfl (fun K hK => ?_) AllReadyH.nil
  go_simp
  refine (checkLimit_is l G _ hG).mono ?_
  rintro e w' ⟨rfl, rfl⟩
  go_wp2_with fail
  refine hK.out _ _ (by simp [go_sem, World.cell?_alloc_past, *]) (fun hHeld => ?_)
  clear hK K
  try simp only [Act.put, sA, sB, sC]
  refine wpAnyH_ready (rs := [7]) (by kernel_rfl) (by simp) ?_
  refine AllReadyH.cons rfl (fun K hK => ?_) AllReadyH.nil
  go_simp
  refine (checkSpan_is a b H _ hH).mono ?_
  rintro e xw2 ⟨rfl, hbx2⟩
  have zx2 := hbx2.size
  try simp at zx2
  obtain ⟨x2_0_0, x2_0_1, x2_1_0, x2_1_1, x2_1_2, x2_1_3⟩ : xw2.cell? ⟨w.heap.size, 0, none⟩ = some (.int .i64 m) ∧ xw2.cell? ⟨w.heap.size, 1, none⟩ = some (.slice A n cap) ∧ xw2.cell? ⟨w.heap.size + 1, 0, none⟩ = some (.int .i64 l) ∧ xw2.cell? ⟨w.heap.size + 1, 1, none⟩ = some (.int .i64 a) ∧ xw2.cell? ⟨w.heap.size + 1, 2, none⟩ = some (.int .i64 b) ∧ xw2.cell? ⟨w.heap.size + 1, 3, none⟩ = some (.bool s) := by refine ⟨?_, ?_, ?_, ?_, ?_, ?_⟩ <;> (rw [(bcell hbx2).1 _ _ (by first | (simp; done) | (simp; omega) | omega)]; simp [go_sem, World.cell?_alloc_past, *])
  obtain ⟨x2o0, x2n0, x2m0, x2t0_0, x2o1, x2n1, x2m1, x2t1_0⟩ : w.heap.size < xw2.heap.size ∧ xw2.heap.size ≠ w.heap.size ∧ w.heap.size ≠ xw2.heap.size ∧ w.heap.size < xw2.heap.size + 1 ∧ w.heap.size + 1 < xw2.heap.size ∧ xw2.heap.size ≠ w.heap.size + 1 ∧ w.heap.size + 1 ≠ xw2.heap.size ∧ w.heap.size + 1 < xw2.heap.size + 1 := by refine ⟨?_, ?_, ?_, ?_, ?_, ?_, ?_, ?_⟩ <;> omega
  have hBx2 : Below w.heap.size w xw2 := (by (repeat (first | (with_reducible refine Below.drew ?_) | (with_reducible refine below_drewN ?_ _) | (with_reducible refine Below.alloc ?_ (by first | omega | (simp; done) | (simp; omega) | (simp at *; omega)) _) | (with_reducible refine Below.setCell ?_ (by first | omega | (simp; done) | (simp; omega) | (simp at *; omega)) _) | (with_reducible exact Below.refl _ _) | (with_reducible assumption) | (with_reducible refine Below.trans ?_ (Below.mono (by assumption) (by first | omega | (simp; done) | (simp; omega) | (simp at *; omega)))))))
  clear hbx2 x1_0_0 x1_0_1 x1_1_0 x1_1_1 x1_1_2 x1_1_3 x1o0 x1n0 x1m0 x1t0_0 x1o1 x1n1 x1m1 x1t1_0 hBx1
  go_wp2_with fail
  refine hK.out _ _ (by simp [go_sem, World.cell?_alloc_past, *]) (fun hHeld => ?_)
  clear hK K
  try simp only [Act.put, sA, sB, sC]
  refine wpAnyH_ready (rs := [8]) (by kernel_rfl) (by simp) ?_
  refine AllReadyH.cons rfl (fun K hK => ?_) AllReadyH.nil
  go_simp
  go_wp2_with fail
  refine hK.out _ _ (by simp [go_sem, World.cell?_alloc_past, *]) (fun hHeld => ?_)
  clear hK K
  try simp only [Act.put, sA, sB, sC]
  refine wpAnyH_ready (rs := [9]) (by kernel_rfl) (by simp) ?_
  refine AllReadyH.cons rfl (fun K hK => ?_) AllReadyH.nil
  go_simp
  refine (cF3y F G H E _ _ hE (by simp [go_sem]) (by simp [go_sem]) (by simp [go_sem])).mono ?_
  rintro e w' ⟨rfl, rfl⟩
  go_wp2_with fail
  refine hK.out _ _ (by simp [go_sem, World.cell?_alloc_past, *]) (fun hHeld => ?_)
  clear hK K
  try simp only [Act.put, sA, sB, sC]
  refine tkH 10 ⟨some 6, _, _, _, _, _⟩ ?_ rfl ?_ (by assumption) ?_
  rotate_left
  · (intro w hSw; (try dsimp only at hSw); go_simp; all_goals with_reducible rfl)
  try simp only [Act.put, sA, sB, sC]
  refine wpAnyH_done (by kernel_rfl) ?_ _
  go_wp2_with fail
  refine (newTide_any m A n cap _).mono ?_
  rintro e xw3 ⟨bt, rfl, g1, g2, cm, cs, hH4, hbx3⟩
  have zx3 := hbx3.size
  try simp at zx3
  obtain ⟨x3_0_0, x3_0_1, x3_1_0, x3_1_1, x3_1_2, x3_1_3⟩ : xw3.cell? ⟨w.heap.size, 0, none⟩ = some (.int .i64 m) ∧ xw3.cell? ⟨w.heap.size, 1, none⟩ = some (.slice A n cap) ∧ xw3.cell? ⟨w.heap.size + 1, 0, none⟩ = some (.int .i64 l) ∧ xw3.cell? ⟨w.heap.size + 1, 1, none⟩ = some (.int .i64 a) ∧ xw3.cell? ⟨w.heap.size + 1, 2, none⟩ = some (.int .i64 b) ∧ xw3.cell? ⟨w.heap.size + 1, 3, none⟩ = some (.bool s) := by refine ⟨?_, ?_, ?_, ?_, ?_, ?_⟩ <;> (rw [(bcell hbx3).1 _ _ (by first | (simp; done) | (simp; omega) | omega)]; simp [go_sem, World.cell?_alloc_past, *])
  obtain ⟨x3o0, x3n0, x3m0, x3t0_0, x3o1, x3n1, x3m1, x3t1_0⟩ : w.heap.size < xw3.heap.size ∧ xw3.heap.size ≠ w.heap.size ∧ w.heap.size ≠ xw3.heap.size ∧ w.heap.size < xw3.heap.size + 1 ∧ w.heap.size + 1 < xw3.heap.size ∧ xw3.heap.size ≠ w.heap.size + 1 ∧ w.heap.size + 1 ≠ xw3.heap.size ∧ w.heap.size + 1 < xw3.heap.size + 1 := by refine ⟨?_, ?_, ?_, ?_, ?_, ?_, ?_, ?_⟩ <;> omega
  have hBx3 : Below w.heap.size w xw3 := (by (repeat (first | (with_reducible refine Below.drew ?_) | (with_reducible refine below_drewN ?_ _) | (with_reducible refine Below.alloc ?_ (by first | omega | (simp; done) | (simp; omega) | (simp at *; omega)) _) | (with_reducible refine Below.setCell ?_ (by first | omega | (simp; done) | (simp; omega) | (simp at *; omega)) _) | (with_reducible exact Below.refl _ _) | (with_reducible assumption) | (with_reducible refine Below.trans ?_ (Below.mono (by assumption) (by first | omega | (simp; done) | (simp; omega) | (simp at *; omega)))))))
  clear hbx3 x2_0_0 x2_0_1 x2_1_0 x2_1_1 x2_1_2 x2_1_3 x2o0 x2n0 x2m0 x2t0_0 x2o1 x2n1 x2m1 x2t1_0 hBx2
  have HH4 := Lib.hid hH4
  clear hH4
  have HT : Hid (∀ w' : World, Below xw3.heap.size xw3 w' → w'.cell? ⟨bt, 0, none⟩ = some (.int .i64 m) ∧ w'.cell? ⟨bt, 1, none⟩ = some (.slice A n cap) ∧ HvA w' bt 2 ∧ w'.cell? ⟨w.heap.size + 1, 0, none⟩ = some (.int .i64 l)) := Lib.hid fun w' hB => ⟨(hB.cell (p := ⟨bt, 0, none⟩) g2).trans cm, (hB.cell (p := ⟨bt, 1, none⟩) g2).trans cs, HH4.out.below hB g2, (hB.cell (p := ⟨w.heap.size + 1, 0, none⟩) (by show w.heap.size + 1 < _; omega)).trans (by simp [*])⟩
  have sw : w.heap.size + 1 < xw3.heap.size := by omega
  cases s with
  | true =>
    go_wp2_with fail
    refine (windowsInS_is (slkG m L l 2) a b N xw3.heap.size (w.heap.size + 1) (xw3.heap.size + 1) _ hN a0 ab b1 hs3 (Lib.hid ?wc)).mono ?_
    case wc =>
      intro t w' ta tb hw
      have hB3 : Below xw3.heap.size xw3 w' := by
        refine Below.trans ?_ (hw.mono (by simp; omega))
        (repeat (first | (with_reducible refine Below.drew ?_) | (with_reducible refine below_drewN ?_ _) | (with_reducible refine Below.alloc ?_ (by first | omega | (simp; done) | (simp; omega) | (simp at *; omega)) _) | (with_reducible refine Below.setCell ?_ (by first | omega | (simp; done) | (simp; omega) | (simp at *; omega)) _) | (with_reducible exact Below.refl _ _) | (with_reducible assumption) | (with_reducible refine Below.trans ?_ (Below.mono (by assumption) (by first | omega | (simp; done) | (simp; omega) | (simp at *; omega))))))
      have z := hw.size
      simp at z
      obtain ⟨t0, t1, t2, t3⟩ := HT.out _ hB3
      refine slkC_is m L A bt cap n _ _ _ t l 2 w' hn h10 HW m0 m1 (by omega) (by omega) (by omega) (Lib.hid (HR.out _ (hBx3.trans (hB3.mono (by omega))))) t0 t1 (Lib.hid t2) l0 l1 ?_ t3 ?_ (by omega) (by omega) (by omega)
      · rw [hw.cell (p := ⟨xw3.heap.size, 0, none⟩) (by simp; omega)]; simp [go_sem, World.cell?_alloc_past]
      · rw [hw.cell (p := ⟨xw3.heap.size + 1, 0, none⟩) (by simp)]; simp [go_sem, World.cell?_alloc_past]
    rintro e x7 hQ
    rcases hQ with ⟨hq, G7, cg7, rfl, hS7, hN7, hb7⟩ | ⟨hq, rfl, hb7⟩
    · have HS7 := Lib.hid hS7
      have HN7 := Lib.hid hN7
      have HQ7 := Lib.hid hq
      have hB7 : Below w.heap.size w x7 := by
        refine Below.trans ?_ (hb7.mono (by simp; omega))
        (repeat (first | (with_reducible refine Below.drew ?_) | (with_reducible refine below_drewN ?_ _) | (with_reducible refine Below.alloc ?_ (by first | omega | (simp; done) | (simp; omega) | (simp at *; omega)) _) | (with_reducible refine Below.setCell ?_ (by first | omega | (simp; done) | (simp; omega) | (simp at *; omega)) _) | (with_reducible exact Below.refl _ _) | (with_reducible assumption) | (with_reducible refine Below.trans ?_ (Below.mono (by assumption) (by first | omega | (simp; done) | (simp; omega) | (simp at *; omega))))))
      clear hS7 hN7 hb7 hq
      go_wp2
      go_ret2
      exact .inl ⟨HQ7.out, G7, cg7, rfl, HS7.out, HN7.out, hB7⟩
    · have HQ7 := Lib.hid hq
      have hB7 : Below w.heap.size w x7 := by
        refine Below.trans ?_ (hb7.mono (by simp; omega))
        (repeat (first | (with_reducible refine Below.drew ?_) | (with_reducible refine below_drewN ?_ _) | (with_reducible refine Below.alloc ?_ (by first | omega | (simp; done) | (simp; omega) | (simp at *; omega)) _) | (with_reducible refine Below.setCell ?_ (by first | omega | (simp; done) | (simp; omega) | (simp at *; omega)) _) | (with_reducible exact Below.refl _ _) | (with_reducible assumption) | (with_reducible refine Below.trans ?_ (Below.mono (by assumption) (by first | omega | (simp; done) | (simp; omega) | (simp at *; omega))))))
      clear hb7 hq
      go_wp2
      go_ret2
      exact .inr ⟨HQ7.out, rfl, hB7⟩
  | false =>
    go_wp2_with fail
    refine (windowsInS_is (slkG m L l 1) a b N xw3.heap.size (w.heap.size + 1) (xw3.heap.size + 1) _ hN a0 ab b1 hs3 (Lib.hid ?wc)).mono ?_
    case wc =>
      intro t w' ta tb hw
      have hB3 : Below xw3.heap.size xw3 w' := by
        refine Below.trans ?_ (hw.mono (by simp; omega))
        (repeat (first | (with_reducible refine Below.drew ?_) | (with_reducible refine below_drewN ?_ _) | (with_reducible refine Below.alloc ?_ (by first | omega | (simp; done) | (simp; omega) | (simp at *; omega)) _) | (with_reducible refine Below.setCell ?_ (by first | omega | (simp; done) | (simp; omega) | (simp at *; omega)) _) | (with_reducible exact Below.refl _ _) | (with_reducible assumption) | (with_reducible refine Below.trans ?_ (Below.mono (by assumption) (by first | omega | (simp; done) | (simp; omega) | (simp at *; omega))))))
      have z := hw.size
      simp at z
      obtain ⟨t0, t1, t2, t3⟩ := HT.out _ hB3
      refine slkC_is m L A bt cap n _ _ _ t l 1 w' hn h10 HW m0 m1 (by omega) (by omega) (by omega) (Lib.hid (HR.out _ (hBx3.trans (hB3.mono (by omega))))) t0 t1 (Lib.hid t2) l0 l1 ?_ t3 ?_ (by omega) (by omega) (by omega)
      · rw [hw.cell (p := ⟨xw3.heap.size, 0, none⟩) (by simp; omega)]; simp [go_sem, World.cell?_alloc_past]
      · rw [hw.cell (p := ⟨xw3.heap.size + 1, 0, none⟩) (by simp)]; simp [go_sem, World.cell?_alloc_past]
    rintro e x7 hQ
    rcases hQ with ⟨hq, G7, cg7, rfl, hS7, hN7, hb7⟩ | ⟨hq, rfl, hb7⟩
    · have HS7 := Lib.hid hS7
      have HN7 := Lib.hid hN7
      have HQ7 := Lib.hid hq
      have hB7 : Below w.heap.size w x7 := by
        refine Below.trans ?_ (hb7.mono (by simp; omega))
        (repeat (first | (with_reducible refine Below.drew ?_) | (with_reducible refine below_drewN ?_ _) | (with_reducible refine Below.alloc ?_ (by first | omega | (simp; done) | (simp; omega) | (simp at *; omega)) _) | (with_reducible refine Below.setCell ?_ (by first | omega | (simp; done) | (simp; omega) | (simp at *; omega)) _) | (with_reducible exact Below.refl _ _) | (with_reducible assumption) | (with_reducible refine Below.trans ?_ (Below.mono (by assumption) (by first | omega | (simp; done) | (simp; omega) | (simp at *; omega))))))
      clear hS7 hN7 hb7 hq
      go_wp2
      go_ret2
      exact .inl ⟨HQ7.out, G7, cg7, rfl, HS7.out, HN7.out, hB7⟩
    · have HQ7 := Lib.hid hq
      have hB7 : Below w.heap.size w x7 := by
        refine Below.trans ?_ (hb7.mono (by simp; omega))
        (repeat (first | (with_reducible refine Below.drew ?_) | (with_reducible refine below_drewN ?_ _) | (with_reducible refine Below.alloc ?_ (by first | omega | (simp; done) | (simp; omega) | (simp at *; omega)) _) | (with_reducible refine Below.setCell ?_ (by first | omega | (simp; done) | (simp; omega) | (simp at *; omega)) _) | (with_reducible exact Below.refl _ _) | (with_reducible assumption) | (with_reducible refine Below.trans ?_ (Below.mono (by assumption) (by first | omega | (simp; done) | (simp; omega) | (simp at *; omega))))))
      clear hb7 hq
      go_wp2
      go_ret2
      exact .inr ⟨HQ7.out, rfl, hB7⟩
end Go.Proofs.YtojaompfffpofaaGreat
