/- The loads behind the leg of the examples: tissue.Loaded. -/
import Derived.Test.YtfaodlcfjhnhbaaMEnd
import Derived.Test.YtfaodlcfjhnhbaaMLimits
import Derived.Deep.DrawnRows
import Derived.Outline
namespace Go.Proofs.Ytfaodlcfjhnhbaa
open Go.ChangeShapes Go.WideShapes Go.ChangeAt Go.RowKit
set_option linter.unusedVariables false
set_option linter.unusedSimpArgs false
attribute [local go_sem ↓] Go.wp_at_zero Go.wp_at_succ
theorem cm1 {w : World} {b o : Nat} {x : Cm} (hb : b < w.heap.size) (g0 : w.cell? ⟨b, o, none⟩ = some (.int .i64 x.n)) (g1 : w.cell? ⟨b, o + 1, none⟩ = some (.int .i64 x.h)) (g2 : w.cell? ⟨b, o + 2, none⟩ = some (.int .i64 x.b)) (g3 : w.cell? ⟨b, o + 3, none⟩ = some (.int .i64 x.s)) : SlCm w (some ⟨b, o, none⟩) [x] :=
  Or.inr ⟨b, o, rfl, hb, fun k hk => by
    obtain rfl : k = 0 := by simp at hk; omega
    simp only [Nat.zero_mul, Nat.add_zero]
    exact ⟨g0, g1, g2, g3⟩⟩
theorem ld1 {w : World} {b o : Nat} {x : Ld} (hb : b < w.heap.size) (g0 : w.cell? ⟨b, o, none⟩ = some (.int .i64 x.a)) (g1 : w.cell? ⟨b, o + 1, none⟩ = some (.int .i64 x.b)) (g2 : w.cell? ⟨b, o + 2, none⟩ = some (.int .i64 x.c)) (g3 : w.cell? ⟨b, o + 3, none⟩ = some (.int .i64 x.d)) : SlLd w (some ⟨b, o, none⟩) [x] :=
  Or.inr ⟨b, o, rfl, hb, fun k hk => by
    obtain rfl : k = 0 := by simp at hk; omega
    simp only [Nat.zero_mul, Nat.add_zero]
    exact ⟨g0, g1, g2, g3⟩⟩
theorem CheckLoads_1 (x : Cm) (y : Ld) (A B : Option Addr) (cap cap' : Nat) (w : World) (hz : loadsE [x] [y] = 0) (hT : SlCm w A [x]) (hL : SlLd w B [y]) :
    Calls Try.prog 24 #[.slice A 1 cap, .slice B 1 cap'] w fun e w' => e = .returned (.int .i64 0) ∧ Below w.heap.size w w' := by
  have := CheckLoads_any [x] [y] A B cap cap' w (by simp) (by simp) hT hL
  rw [hz] at this
  exact this
theorem CheckLeg_x (f t s o h : Int) (w : World) (hz : legE f t s o h = 0) :
    Calls Try.prog 25 #[.agg #[.int .i64 f, .int .i64 t, .int .i64 s, .int .i64 o, .int .i64 h]] w fun e w' => e = .returned (.int .i64 0) ∧ Below w.heap.size w w' := by
  have := CheckLeg_any f t s o h w
  rw [hz] at this
  exact this
theorem checkFine_x (n : Int) (w : World) (hz : rngE n 0 6 = 0) :
    Calls Try.prog 26 #[.int .i64 n] w fun e w' => e = .returned (.int .i64 0) ∧ w = w' := by
  have := tcheckFine_any n w
  rw [hz] at this
  exact this
theorem first000 (b : Nat) (w : World) (h0 : w.cell? ⟨b, 0, none⟩ = some (.int .i64 0)) (h1 : w.cell? ⟨b, 1, none⟩ = some (.int .i64 0)) (h2 : w.cell? ⟨b, 2, none⟩ = some (.int .i64 0)) :
    Calls Try.prog 23 #[.slice (some ⟨b, 0, none⟩) 3 3] w fun e w' => e = .returned (.int .i64 0) ∧ w = w' := by
  have := cFirst3c 0 0 0 b w h0 h1 h2
  rw [show firE [0, 0, 0] = 0 by decide] at this
  exact this
/-- The loads of the examples, with no error. -/
def LoadedP (w : World) (e : Ending) (w' : World) : Prop := ∃ q, e = .returned (.tuple #[.slice (some ⟨q, 0, none⟩) 1 1, .int .i64 0]) ∧ w.heap.size ≤ q ∧ q < w'.heap.size ∧ w'.cell? ⟨q, 0, none⟩ = some (.int .i64 1087308) ∧ w'.cell? ⟨q, 1, none⟩ = some (.int .i64 1679809) ∧ w'.cell? ⟨q, 2, none⟩ = some (.int .i64 0) ∧ w'.cell? ⟨q, 3, none⟩ = some (.int .i64 0) ∧ Below w.heap.size w w'
set_option maxRecDepth 100000 in
set_option maxHeartbeats 2000000 in
theorem Loaded_ex (tb to tcap q0 qo qcap : Nat) (w : World) (htb : tb < w.heap.size) (hq0 : q0 < w.heap.size)
    (g0 : w.cell? ⟨tb, to, none⟩ = some (.int .i64 600)) (g1 : w.cell? ⟨tb, to + 1, none⟩ = some (.int .i64 240)) (g2 : w.cell? ⟨tb, to + 2, none⟩ = some (.int .i64 500)) (g3 : w.cell? ⟨tb, to + 3, none⟩ = some (.int .i64 1500))
    (p0 : w.cell? ⟨q0, qo, none⟩ = some (.int .i64 740230)) (p1 : w.cell? ⟨q0, qo + 1, none⟩ = some (.int .i64 740230)) (p2 : w.cell? ⟨q0, qo + 2, none⟩ = some (.int .i64 0)) (p3 : w.cell? ⟨q0, qo + 3, none⟩ = some (.int .i64 0)) :
    Calls Try.prog 9 #[.slice (some ⟨tb, to, none⟩) 1 tcap, .slice (some ⟨q0, qo, none⟩) 1 qcap, .agg #[.int .i64 1000, .int .i64 4000, .int .i64 600, .int .i64 210, .int .i64 0], .int .i64 1] w (LoadedP w) := by
  have HT := Lib.hid (cm1 (x := ⟨600, 240, 500, 1500⟩) htb g0 g1 g2 g3)
  have HL := Lib.hid (ld1 (x := ⟨740230, 740230, 0, 0⟩) hq0 p0 p1 p2 p3)
  have HG := Lib.hid (And.intro g0 (And.intro g1 (And.intro g2 (And.intro g3 (And.intro p0 (And.intro p1 (And.intro p2 p3)))))))
  clear g0 g1 g2 g3 p0 p1 p2 p3
  go_enter Try.func9, Try.ntmps9
  go_wp2
  generalize hwb : w.alloc (.cells #[.int .i64 1000, .int .i64 4000, .int .i64 600, .int .i64 210, .int .i64 0] 27) = wb
  have hBw : Below w.heap.size w wb := by rw [← hwb]; exact (Below.refl _ _).alloc (Nat.le_refl _) _
  have hlw : w.heap.size < wb.heap.size := by rw [← hwb]; simp
  have k0 : wb.cell? ⟨w.heap.size, 0, none⟩ = some (.int .i64 1000) := by rw [← hwb]; simp [go_sem]
  have k1 : wb.cell? ⟨w.heap.size, 1, none⟩ = some (.int .i64 4000) := by rw [← hwb]; simp [go_sem]
  have k2 : wb.cell? ⟨w.heap.size, 2, none⟩ = some (.int .i64 600) := by rw [← hwb]; simp [go_sem]
  have k3 : wb.cell? ⟨w.heap.size, 3, none⟩ = some (.int .i64 210) := by rw [← hwb]; simp [go_sem]
  have k4 : wb.cell? ⟨w.heap.size, 4, none⟩ = some (.int .i64 0) := by rw [← hwb]; simp [go_sem]
  have HS : ∀ w', Below wb.heap.size wb w' → w'.cell? ⟨w.heap.size, 0, none⟩ = some (.int .i64 1000) ∧ w'.cell? ⟨w.heap.size, 1, none⟩ = some (.int .i64 4000) ∧ w'.cell? ⟨w.heap.size, 2, none⟩ = some (.int .i64 600) ∧ w'.cell? ⟨w.heap.size, 3, none⟩ = some (.int .i64 210) ∧ w'.cell? ⟨w.heap.size, 4, none⟩ = some (.int .i64 0) := fun w' hb => ⟨(hb.cell (p := ⟨w.heap.size, 0, none⟩) hlw).trans k0, (hb.cell (p := ⟨w.heap.size, 1, none⟩) hlw).trans k1, (hb.cell (p := ⟨w.heap.size, 2, none⟩) hlw).trans k2, (hb.cell (p := ⟨w.heap.size, 3, none⟩) hlw).trans k3, (hb.cell (p := ⟨w.heap.size, 4, none⟩) hlw).trans k4⟩
  have HS' := Lib.hid HS
  clear HS k0 k1 k2 k3 k4 hwb
  refine wp_region_held_drew (S := (fun w' => w'.cell? ⟨w.heap.size, 0, none⟩ = some (.int .i64 1000) ∧ w'.cell? ⟨w.heap.size, 1, none⟩ = some (.int .i64 4000) ∧ w'.cell? ⟨w.heap.size, 2, none⟩ = some (.int .i64 600) ∧ w'.cell? ⟨w.heap.size, 3, none⟩ = some (.int .i64 210) ∧ w'.cell? ⟨w.heap.size, 4, none⟩ = some (.int .i64 0))) (by kernel_rfl) (by exact HS'.out _ (Below.refl wb.heap.size wb).drew) (fun hHeld => ?_)
  refine wpAnyH_take (i := 0) (oi := ⟨some 11, _, _, _, _, _⟩) (v := ?_) rfl (by kernel_rfl) (by kernel_rfl) (by kernel_rfl) (fun _ _ _ h => h) (Or.inl ⟨by kernel_rfl, ?_⟩) (by assumption) ?_
  rotate_left
  · (intro w hSw; (try dsimp only at hSw); go_simp; all_goals with_reducible rfl)
  try simp only [Act.put, List.setIfInBounds_toArray, List.set_cons_zero, List.set_cons_succ]
  refine wpAnyH_take (i := 1) (oi := ⟨some 12, _, _, _, _, _⟩) (v := ?_) rfl (by kernel_rfl) (by kernel_rfl) (by kernel_rfl) (fun _ _ _ h => h) (Or.inl ⟨by kernel_rfl, ?_⟩) (by assumption) ?_
  rotate_left
  · (intro w hSw; (try dsimp only at hSw); go_simp; all_goals with_reducible rfl)
  try simp only [Act.put, List.setIfInBounds_toArray, List.set_cons_zero, List.set_cons_succ]
  refine wpAnyH_take (i := 3) (oi := ⟨some 14, _, _, _, _, _⟩) (v := ?_) rfl (by kernel_rfl) (by kernel_rfl) (by kernel_rfl) (fun _ _ _ h => h) (Or.inl ⟨by kernel_rfl, ?_⟩) (by assumption) ?_
  rotate_left
  · (intro w hSw; (try dsimp only at hSw); go_simp; all_goals with_reducible rfl)
  try simp only [Act.put, List.setIfInBounds_toArray, List.set_cons_zero, List.set_cons_succ]
  refine wpAnyH_take (i := 5) (oi := ⟨some 16, _, _, _, _, _⟩) (v := ?_) rfl (by kernel_rfl) (by kernel_rfl) (by kernel_rfl) (fun _ _ _ h => h) (Or.inl ⟨by kernel_rfl, ?_⟩) (by assumption) ?_
  rotate_left
  · (intro w hSw; (try dsimp only at hSw); go_simp; all_goals with_reducible rfl)
  try simp only [Act.put, List.setIfInBounds_toArray, List.set_cons_zero, List.set_cons_succ]
  refine wpAnyH_ready (rs := [2]) (by kernel_rfl) (by simp) ?_
  refine AllReadyH.cons rfl (fun K hK => ?_) AllReadyH.nil
  go_simp
  refine (CheckLoads_1 ⟨600, 240, 500, 1500⟩ ⟨740230, 740230, 0, 0⟩ _ _ _ _ _ (by decide) (HT.out.below (hBw.trans ((Below.refl wb.heap.size wb).drew.mono hBw.size))) (HL.out.below (hBw.trans ((Below.refl wb.heap.size wb).drew.mono hBw.size)))).mono ?_
  rintro e v1 ⟨rfl, hb1⟩
  have hB1 : Below wb.heap.size wb v1 := ((Below.refl wb.heap.size wb).drew).trans (hb1.mono ((Below.refl wb.heap.size wb).drew).size)
  clear hb1
  go_wp2_with fail
  refine hK.out _ _ (HS'.out _ (hB1)) (fun hHeld => ?_)
  clear hK K
  try simp only [Act.put, List.setIfInBounds_toArray, List.set_cons_zero, List.set_cons_succ]
  refine wpAnyH_ready (rs := [4]) (by kernel_rfl) (by simp) ?_
  refine AllReadyH.cons rfl (fun K hK => ?_) AllReadyH.nil
  go_simp
  refine (CheckLeg_x 1000 4000 600 210 0 _ (by decide)).mono ?_
  rintro e v2 ⟨rfl, hb2⟩
  have hB2 : Below wb.heap.size wb v2 := hB1.trans (hb2.mono hB1.size)
  clear hb2
  go_wp2_with fail
  refine hK.out _ _ (HS'.out _ (hB2)) (fun hHeld => ?_)
  clear hK K
  try simp only [Act.put, List.setIfInBounds_toArray, List.set_cons_zero, List.set_cons_succ]
  refine wpAnyH_ready (rs := [6]) (by kernel_rfl) (by simp) ?_
  refine AllReadyH.cons rfl (fun K hK => ?_) AllReadyH.nil
  go_simp
  refine (checkFine_x 1 _ (by decide)).mono ?_
  rintro e v3 ⟨rfl, rfl⟩
  go_wp2_with fail
  refine hK.out _ _ (HS'.out _ (hB2)) (fun hHeld => ?_)
  clear hK K
  try simp only [Act.put, List.setIfInBounds_toArray, List.set_cons_zero, List.set_cons_succ]
  refine wpAnyH_ready (rs := [7]) (by kernel_rfl) (by simp) ?_
  refine AllReadyH.cons rfl (fun K hK => ?_) AllReadyH.nil
  go_simp
  go_wp2_with fail
  refine hK.out _ _ (HS'.out _ (hB2.alloc hB2.size _)) (fun hHeld => ?_)
  clear hK K
  try simp only [Act.put, List.setIfInBounds_toArray, List.set_cons_zero, List.set_cons_succ]
  refine wpAnyH_ready (rs := [8]) (by kernel_rfl) (by simp) ?_
  refine AllReadyH.cons rfl (fun K hK => ?_) AllReadyH.nil
  go_simp
  refine (first000 _ _ (by simp [go_sem]) (by simp [go_sem]) (by simp [go_sem])).mono ?_
  rintro e v3 ⟨rfl, rfl⟩
  go_wp2_with fail
  refine hK.out _ _ (HS'.out _ (hB2.alloc hB2.size _)) (fun hHeld => ?_)
  clear hK K
  try simp only [Act.put, List.setIfInBounds_toArray, List.set_cons_zero, List.set_cons_succ]
  refine wpAnyH_take (i := 9) (oi := ⟨some 10, _, _, _, _, _⟩) (v := ?_) rfl (by kernel_rfl) (by kernel_rfl) (by kernel_rfl) (fun _ _ _ h => h) (Or.inl ⟨by kernel_rfl, ?_⟩) (by assumption) ?_
  rotate_left
  · (intro w hSw; (try dsimp only at hSw); go_simp; all_goals with_reducible rfl)
  try simp only [Act.put, List.setIfInBounds_toArray, List.set_cons_zero, List.set_cons_succ]
  refine wpAnyH_done (by kernel_rfl) ?_ _
  have hB3 : ∀ (o : Obj), Below wb.heap.size wb (v2.alloc o) := fun o => hB2.alloc hB2.size o
  have hBz := hBw.size
  obtain ⟨g0, g1, g2, g3, p0, p1, p2, p3⟩ := HG.out
  have HN := Lib.hid (fun (o : Obj) => end_ex tb to tcap q0 qo qcap (v2.alloc o) (by have := (hB3 o).size; omega) (by have := (hB3 o).size; omega) (((hB3 o).cell (p := ⟨tb, to, none⟩) (by show tb < _; omega)).trans ((hBw.cell (p := ⟨tb, to, none⟩) htb).trans g0)) (((hB3 o).cell (p := ⟨tb, to + 1, none⟩) (by show tb < _; omega)).trans ((hBw.cell (p := ⟨tb, to + 1, none⟩) htb).trans g1)) (((hB3 o).cell (p := ⟨tb, to + 2, none⟩) (by show tb < _; omega)).trans ((hBw.cell (p := ⟨tb, to + 2, none⟩) htb).trans g2)) (((hB3 o).cell (p := ⟨tb, to + 3, none⟩) (by show tb < _; omega)).trans ((hBw.cell (p := ⟨tb, to + 3, none⟩) htb).trans g3))
    (((hB3 o).cell (p := ⟨q0, qo, none⟩) (by show q0 < _; omega)).trans ((hBw.cell (p := ⟨q0, qo, none⟩) hq0).trans p0)) (((hB3 o).cell (p := ⟨q0, qo + 1, none⟩) (by show q0 < _; omega)).trans ((hBw.cell (p := ⟨q0, qo + 1, none⟩) hq0).trans p1)) (((hB3 o).cell (p := ⟨q0, qo + 2, none⟩) (by show q0 < _; omega)).trans ((hBw.cell (p := ⟨q0, qo + 2, none⟩) hq0).trans p2)) (((hB3 o).cell (p := ⟨q0, qo + 3, none⟩) (by show q0 < _; omega)).trans ((hBw.cell (p := ⟨q0, qo + 3, none⟩) hq0).trans p3)))
  have HB3 := Lib.hid hB3
  clear hB3 g0 g1 g2 g3 p0 p1 p2 p3
  go_wp2_with fail
  refine (HN.out _).mono ?_
  rintro e v4 ⟨q, rfl, e1, e2, e3, e4, e5, e6, hb4⟩
  have HE := Lib.hid (And.intro e1 (And.intro e2 (And.intro e3 (And.intro e4 (And.intro e5 (And.intro e6 hb4))))))
  clear e1 e2 e3 e4 e5 e6 hb4
  go_wp2
  go_ret2
  obtain ⟨e1, e2, e3, e4, e5, e6, hb4⟩ := HE.out
  have hz2 := hB2.size
  exact ⟨q, rfl, Nat.le_trans hBz (Nat.le_trans (HB3.out _).size e1), e2, e3, e4, e5, e6, hBw.trans (((HB3.out _).trans (hb4.mono (HB3.out _).size)).mono hBz)⟩
end Go.Proofs.Ytfaodlcfjhnhbaa
