/- The loads behind a leg, for every table, leg and fineness: tissue.Loaded. -/
import Derived.Test.YtfaodlcfjhnhbaaTEndG
import Derived.Test.YtfaodlcfjhnhbaaMLimits
import Derived.Deep.DrawnRows
import Derived.Outline
namespace Go.Proofs.Ytfaodlcfjhnhbaa
open Go.ChangeShapes Go.WideShapes Go.ChangeAt Go.RowKit
set_option linter.unusedVariables false
set_option linter.unusedSimpArgs false
attribute [local go_sem ↓] Go.wp_at_zero Go.wp_at_succ
theorem tb_of {T : List Cm} {L : List Ld} (hF : Fit T L) : TbOk T := by
  refine ⟨hF.one, hF.most, fun k hk => ?_⟩
  have := hF.cm k hk
  unfold compE cmpE at this
  obtain ⟨h1, h2, _, _⟩ := firE4_z this
  have a : ∀ {n : Int}, rngE n 1 100000 = 0 → 1 ≤ n ∧ n ≤ 100000 := fun {n} hn => by
    rcases inB_cases n 1 100000 with h | h
    · exact inB_iff.1 h
    · rw [rngE_f h] at hn; cases hn
  exact ⟨a h1, a h2⟩
theorem ldok_of {T : List Cm} {L : List Ld} (hF : Fit T L) : LdOk L := fun k hk => by
  have := lodE_ok (hF.ld k hk)
  omega
theorem rng0 {n a b : Int} (hn : rngE n a b = 0) : a ≤ n ∧ n ≤ b := by
  rcases inB_cases n a b with h | h
  · exact inB_iff.1 h
  · rw [rngE_f h] at hn; cases hn
theorem leg_of {f t s o h : Int} (hl : legE f t s o h = 0) : (400 ≤ f ∧ f ≤ 31100) ∧ (400 ≤ t ∧ t ≤ 31100) ∧ (0 ≤ s ∧ s ≤ 100000) ∧ gasE o h = 0 := by
  unfold legE at hl
  by_cases hz : firE [rngE f 400 31100, rngE t 400 31100, rngE s 0 100000, gasE o h] = 0
  · obtain ⟨a, b, c, d⟩ := firE4_z hz
    exact ⟨rng0 a, rng0 b, rng0 c, d⟩
  · rw [if_neg hz] at hl; exact absurd hl hz
theorem stN_K (s : Int) (n : Nat) : stN s n = ((stK s n : Nat) : Int) := by
  unfold stN stK
  split <;> rfl
theorem cF3g (x y z r : Int) (b : Nat) (w : World) (hr : Hid (firE [x, y, z] = r)) (h0 : w.cell? ⟨b, 0, none⟩ = some (.int .i64 x)) (h1 : w.cell? ⟨b, 1, none⟩ = some (.int .i64 y)) (h2 : w.cell? ⟨b, 2, none⟩ = some (.int .i64 z)) :
    Calls Try.prog 23 #[.slice (some ⟨b, 0, none⟩) 3 3] w fun e w' => e = .returned (.int .i64 r) ∧ w = w' := by
  rw [← hr.out]; exact cFirst3c x y z b w h0 h1 h2
theorem CheckLeg_is (f t s o h r : Int) (w : World) (hr : Hid (legE f t s o h = r)) :
    Calls Try.prog 25 #[.agg #[.int .i64 f, .int .i64 t, .int .i64 s, .int .i64 o, .int .i64 h]] w fun e w' => e = .returned (.int .i64 r) ∧ Below w.heap.size w w' := by
  rw [← hr.out]; exact CheckLeg_any f t s o h w
theorem checkFine_is (n r : Int) (w : World) (hr : Hid (rngE n 0 6 = r)) :
    Calls Try.prog 26 #[.int .i64 n] w fun e w' => e = .returned (.int .i64 r) ∧ w = w' := by
  rw [← hr.out]; exact tcheckFine_any n w
set_option maxRecDepth 100000 in
set_option maxHeartbeats 2000000 in
theorem Loaded_bad (T : List Cm) (L : List Ld) (A B : Option Addr) (cap cap' : Nat) (f t s o hh fi E1 E2 E3 E : Int) (w : World) (hl : T.length ≤ 1000000) (hl' : L.length ≤ 1000000) (h1 : Hid (loadsE T L = E1)) (h2 : Hid (legE f t s o hh = E2)) (h3 : Hid (rngE fi 0 6 = E3)) (hE : Hid (firE [E1, E2, E3] = E)) (hz : (E != 0) = true) (hT : SlCm w A T) (hL : SlLd w B L) :
    Calls Try.prog 9 #[.slice A T.length cap, .slice B L.length cap', .agg #[.int .i64 f, .int .i64 t, .int .i64 s, .int .i64 o, .int .i64 hh], .int .i64 fi] w fun e w' => e = .returned (.tuple #[.slice none 0 0, .int .i64 E]) ∧ Below w.heap.size w w' := by
  have CL : Hid (∀ w', Below w.heap.size w w' → Calls Try.prog 24 #[.slice A T.length cap, .slice B L.length cap'] w' fun e w'' => e = .returned (.int .i64 E1) ∧ Below w'.heap.size w' w'') := fun w' hb => CheckLoads_is T L A B cap cap' E1 w' hl hl' h1 (hT.below hb) (hL.below hb)
  clear hT hL
  go_enter Try.func9, Try.ntmps9
  go_wp2
  generalize hwb : w.alloc (.cells #[.int .i64 f, .int .i64 t, .int .i64 s, .int .i64 o, .int .i64 hh] 27) = wb
  have hBw : Below w.heap.size w wb := by rw [← hwb]; exact (Below.refl _ _).alloc (Nat.le_refl _) _
  have hlw : w.heap.size < wb.heap.size := by rw [← hwb]; simp
  have k0 : wb.cell? ⟨w.heap.size, 0, none⟩ = some (.int .i64 f) := by rw [← hwb]; simp [go_sem]
  have k1 : wb.cell? ⟨w.heap.size, 1, none⟩ = some (.int .i64 t) := by rw [← hwb]; simp [go_sem]
  have k2 : wb.cell? ⟨w.heap.size, 2, none⟩ = some (.int .i64 s) := by rw [← hwb]; simp [go_sem]
  have k3 : wb.cell? ⟨w.heap.size, 3, none⟩ = some (.int .i64 o) := by rw [← hwb]; simp [go_sem]
  have k4 : wb.cell? ⟨w.heap.size, 4, none⟩ = some (.int .i64 hh) := by rw [← hwb]; simp [go_sem]
  have HS : ∀ w', Below wb.heap.size wb w' → w'.cell? ⟨w.heap.size, 0, none⟩ = some (.int .i64 f) ∧ w'.cell? ⟨w.heap.size, 1, none⟩ = some (.int .i64 t) ∧ w'.cell? ⟨w.heap.size, 2, none⟩ = some (.int .i64 s) ∧ w'.cell? ⟨w.heap.size, 3, none⟩ = some (.int .i64 o) ∧ w'.cell? ⟨w.heap.size, 4, none⟩ = some (.int .i64 hh) := fun w' hb => ⟨(hb.cell (p := ⟨w.heap.size, 0, none⟩) hlw).trans k0, (hb.cell (p := ⟨w.heap.size, 1, none⟩) hlw).trans k1, (hb.cell (p := ⟨w.heap.size, 2, none⟩) hlw).trans k2, (hb.cell (p := ⟨w.heap.size, 3, none⟩) hlw).trans k3, (hb.cell (p := ⟨w.heap.size, 4, none⟩) hlw).trans k4⟩
  have HS' := Lib.hid HS
  clear HS k0 k1 k2 k3 k4 hwb
  refine wp_region_held_drew (S := (fun w' => w'.cell? ⟨w.heap.size, 0, none⟩ = some (.int .i64 f) ∧ w'.cell? ⟨w.heap.size, 1, none⟩ = some (.int .i64 t) ∧ w'.cell? ⟨w.heap.size, 2, none⟩ = some (.int .i64 s) ∧ w'.cell? ⟨w.heap.size, 3, none⟩ = some (.int .i64 o) ∧ w'.cell? ⟨w.heap.size, 4, none⟩ = some (.int .i64 hh))) (by kernel_rfl) (by exact HS'.out _ (Below.refl wb.heap.size wb).drew) (fun hHeld => ?_)
  refine wpAnyH_take (i := 0) (oi := ⟨some 11, _, _, _, _, _⟩) (v := ?_) rfl (by kernel_rfl) (by kernel_rfl) (by kernel_rfl) (fun _ _ _ h => h) (Or.inl ⟨by kernel_rfl, ?_⟩) (by assumption) ?_
  rotate_left
  · (intro w hSw; (try dsimp only at hSw); go_simp; all_goals with_reducible rfl)
  try simp only [Act.put, List.setIfInBounds_toArray, List.set_cons_zero, List.set_cons_succ]
  refine wpAnyH_take (i := 1) (oi := ⟨some 12, _, _, _, _, _⟩) (v := ?_) rfl (by kernel_rfl) (by kernel_rfl) (by kernel_rfl) (fun _ _ _ h => h) (Or.inl ⟨by kernel_rfl, ?_⟩) (by assumption) ?_
  rotate_left
  · (intro w hSw; (try dsimp only at hSw); go_simp; all_goals with_reducible rfl)
  try simp only [Act.put, List.setIfInBounds_toArray, List.set_cons_zero, List.set_cons_succ]
  refine wpAnyH_take (i := 3) (oi := ⟨some 14, _, _, _, _, _⟩) (v := ?_) rfl (by kernel_rfl) (by kernel_rfl) (by kernel_rfl) (fun _ _ _ h => h) (Or.inl ⟨by kernel_rfl, ?_⟩) (by assumption) ?_
  rotate_left
  · (intro w hSw; (try dsimp only at hSw); go_simp; all_goals with_reducible rfl)
  try simp only [Act.put, List.setIfInBounds_toArray, List.set_cons_zero, List.set_cons_succ]
  refine wpAnyH_take (i := 5) (oi := ⟨some 16, _, _, _, _, _⟩) (v := ?_) rfl (by kernel_rfl) (by kernel_rfl) (by kernel_rfl) (fun _ _ _ h => h) (Or.inl ⟨by kernel_rfl, ?_⟩) (by assumption) ?_
  rotate_left
  · (intro w hSw; (try dsimp only at hSw); go_simp; all_goals with_reducible rfl)
  try simp only [Act.put, List.setIfInBounds_toArray, List.set_cons_zero, List.set_cons_succ]
  refine wpAnyH_ready (rs := [2]) (by kernel_rfl) (by simp) ?_
  refine AllReadyH.cons rfl (fun K hK => ?_) AllReadyH.nil
  go_simp
  refine (CL.out _ (hBw.trans ((Below.refl wb.heap.size wb).drew.mono hBw.size))).mono ?_
  rintro e v1 ⟨rfl, hb1⟩
  have hB1 : Below wb.heap.size wb v1 := ((Below.refl wb.heap.size wb).drew).trans (hb1.mono ((Below.refl wb.heap.size wb).drew).size)
  clear hb1
  go_wp2_with fail
  refine hK.out _ _ (HS'.out _ (hB1)) (fun hHeld => ?_)
  clear hK K
  try simp only [Act.put, List.setIfInBounds_toArray, List.set_cons_zero, List.set_cons_succ]
  refine wpAnyH_ready (rs := [4]) (by kernel_rfl) (by simp) ?_
  refine AllReadyH.cons rfl (fun K hK => ?_) AllReadyH.nil
  go_simp
  refine (CheckLeg_is f t s o hh E2 _ h2).mono ?_
  rintro e v2 ⟨rfl, hb2⟩
  have hB2 : Below wb.heap.size wb v2 := hB1.trans (hb2.mono hB1.size)
  clear hb2
  go_wp2_with fail
  refine hK.out _ _ (HS'.out _ (hB2)) (fun hHeld => ?_)
  clear hK K
  try simp only [Act.put, List.setIfInBounds_toArray, List.set_cons_zero, List.set_cons_succ]
  refine wpAnyH_ready (rs := [6]) (by kernel_rfl) (by simp) ?_
  refine AllReadyH.cons rfl (fun K hK => ?_) AllReadyH.nil
  go_simp
  refine (checkFine_is fi E3 _ h3).mono ?_
  rintro e v3 ⟨rfl, rfl⟩
  go_wp2_with fail
  refine hK.out _ _ (HS'.out _ (hB2)) (fun hHeld => ?_)
  clear hK K
  try simp only [Act.put, List.setIfInBounds_toArray, List.set_cons_zero, List.set_cons_succ]
  refine wpAnyH_ready (rs := [7]) (by kernel_rfl) (by simp) ?_
  refine AllReadyH.cons rfl (fun K hK => ?_) AllReadyH.nil
  go_simp
  go_wp2_with fail
  refine hK.out _ _ (HS'.out _ (hB2.alloc hB2.size _)) (fun hHeld => ?_)
  clear hK K
  try simp only [Act.put, List.setIfInBounds_toArray, List.set_cons_zero, List.set_cons_succ]
  refine wpAnyH_ready (rs := [8]) (by kernel_rfl) (by simp) ?_
  refine AllReadyH.cons rfl (fun K hK => ?_) AllReadyH.nil
  go_simp
  refine (cF3g E1 E2 E3 E _ _ hE (by simp [go_sem]) (by simp [go_sem]) (by simp [go_sem])).mono ?_
  rintro e v3 ⟨rfl, rfl⟩
  go_wp2_with fail
  refine hK.out _ _ (HS'.out _ (hB2.alloc hB2.size _)) (fun hHeld => ?_)
  clear hK K
  try simp only [Act.put, List.setIfInBounds_toArray, List.set_cons_zero, List.set_cons_succ]
  refine wpAnyH_take (i := 9) (oi := ⟨some 10, _, _, _, _, _⟩) (v := ?_) rfl (by kernel_rfl) (by kernel_rfl) (by kernel_rfl) (fun _ _ _ h => h) (Or.inl ⟨by kernel_rfl, ?_⟩) (by assumption) ?_
  rotate_left
  · (intro w hSw; (try dsimp only at hSw); go_simp; all_goals with_reducible rfl)
  try simp only [Act.put, List.setIfInBounds_toArray, List.set_cons_zero, List.set_cons_succ]
  refine wpAnyH_done (by kernel_rfl) ?_ _
  have hB3 : ∀ (o : Obj), Below w.heap.size w (v2.alloc o) := fun o => hBw.trans ((hB2.alloc hB2.size o).mono hBw.size)
  have HB3 := Lib.hid hB3
  clear hB3
  go_wp2
  go_ret2
  exact ⟨rfl, HB3.out _⟩
/-- The loads behind a leg, with no error. -/
def LoadG (n9 : Nat) (PE : List Ld) (w : World) (e : Ending) (w' : World) : Prop := ∃ q qf qc, e = .returned (.tuple #[.slice (some ⟨q, qf, none⟩) n9 qc, .int .i64 0]) ∧ w.heap.size ≤ q ∧ q < w'.heap.size ∧ LdAt w' q qf PE ∧ Below w.heap.size w w'
set_option maxRecDepth 100000 in
set_option maxHeartbeats 2000000 in
theorem Loaded_good (T : List Cm) (L : List Ld) (A B : Option Addr) (cap cap' : Nat) (f t s o hh : Int) (n : Nat) (w : World) (hF : Hid (Fit T L)) (h1 : Hid (loadsE T L = 0)) (h2 : Hid (legE f t s o hh = 0)) (hn : n ≤ 6) (hT : SlCm w A T) (hL : SlLd w B L) :
    Calls Try.prog 9 #[.slice A T.length cap, .slice B T.length cap', .agg #[.int .i64 f, .int .i64 t, .int .i64 s, .int .i64 o, .int .i64 hh], .int .i64 n] w (LoadG T.length (ldR f t s n o hh T L (stK s n)) w) := by
  have hlen := hF.out.len
  have hm := hF.out.most
  have ho := hF.out.one
  have CL : Hid (∀ w', Below w.heap.size w w' → Calls Try.prog 24 #[.slice A T.length cap, .slice B T.length cap'] w' fun e w'' => e = .returned (.int .i64 0) ∧ Below w'.heap.size w' w'') := fun w' hb => by
    have := CheckLoads_is T L A B cap cap' 0 w' (by omega) (by omega) h1 (hT.below hb) (hL.below hb)
    rw [hlen] at this
    exact this
  have h3 : Hid (rngE (n : Int) 0 6 = 0) := Lib.hid (rngE_t (inB_true (by omega) (by omega)))
  rcases hT with hz | ⟨tb, tq, rfl, htb, hTT⟩
  · rw [hz] at ho; simp at ho
  rcases hL with hz | ⟨q0, qo, rfl, hq0, hLL⟩
  · rw [hz] at hlen; simp at hlen; omega
  have HTL := Lib.hid (And.intro hTT hLL)
  have HLG : Hid (LegOk f t s o hh n) := by
    obtain ⟨a, b, c, d⟩ := leg_of h2.out
    exact Lib.hid ⟨a, b, c, d, hn⟩
  have HP0 : Hid (L.length = T.length ∧ LdOk L) := Lib.hid ⟨hlen, ldok_of hF.out⟩
  have hE : Hid (firE [0, 0, 0] = 0) := Lib.hid (by decide)
  clear hTT hLL hlen
  go_enter Try.func9, Try.ntmps9
  go_wp2
  generalize hwb : w.alloc (.cells #[.int .i64 f, .int .i64 t, .int .i64 s, .int .i64 o, .int .i64 hh] 27) = wb
  have hBw : Below w.heap.size w wb := by rw [← hwb]; exact (Below.refl _ _).alloc (Nat.le_refl _) _
  have hlw : w.heap.size < wb.heap.size := by rw [← hwb]; simp
  have k0 : wb.cell? ⟨w.heap.size, 0, none⟩ = some (.int .i64 f) := by rw [← hwb]; simp [go_sem]
  have k1 : wb.cell? ⟨w.heap.size, 1, none⟩ = some (.int .i64 t) := by rw [← hwb]; simp [go_sem]
  have k2 : wb.cell? ⟨w.heap.size, 2, none⟩ = some (.int .i64 s) := by rw [← hwb]; simp [go_sem]
  have k3 : wb.cell? ⟨w.heap.size, 3, none⟩ = some (.int .i64 o) := by rw [← hwb]; simp [go_sem]
  have k4 : wb.cell? ⟨w.heap.size, 4, none⟩ = some (.int .i64 hh) := by rw [← hwb]; simp [go_sem]
  have HS : ∀ w', Below wb.heap.size wb w' → w'.cell? ⟨w.heap.size, 0, none⟩ = some (.int .i64 f) ∧ w'.cell? ⟨w.heap.size, 1, none⟩ = some (.int .i64 t) ∧ w'.cell? ⟨w.heap.size, 2, none⟩ = some (.int .i64 s) ∧ w'.cell? ⟨w.heap.size, 3, none⟩ = some (.int .i64 o) ∧ w'.cell? ⟨w.heap.size, 4, none⟩ = some (.int .i64 hh) := fun w' hb => ⟨(hb.cell (p := ⟨w.heap.size, 0, none⟩) hlw).trans k0, (hb.cell (p := ⟨w.heap.size, 1, none⟩) hlw).trans k1, (hb.cell (p := ⟨w.heap.size, 2, none⟩) hlw).trans k2, (hb.cell (p := ⟨w.heap.size, 3, none⟩) hlw).trans k3, (hb.cell (p := ⟨w.heap.size, 4, none⟩) hlw).trans k4⟩
  have HS' := Lib.hid HS
  clear HS k0 k1 k2 k3 k4 hwb
  refine wp_region_held_drew (S := (fun w' => w'.cell? ⟨w.heap.size, 0, none⟩ = some (.int .i64 f) ∧ w'.cell? ⟨w.heap.size, 1, none⟩ = some (.int .i64 t) ∧ w'.cell? ⟨w.heap.size, 2, none⟩ = some (.int .i64 s) ∧ w'.cell? ⟨w.heap.size, 3, none⟩ = some (.int .i64 o) ∧ w'.cell? ⟨w.heap.size, 4, none⟩ = some (.int .i64 hh))) (by kernel_rfl) (by exact HS'.out _ (Below.refl wb.heap.size wb).drew) (fun hHeld => ?_)
  refine wpAnyH_take (i := 0) (oi := ⟨some 11, _, _, _, _, _⟩) (v := ?_) rfl (by kernel_rfl) (by kernel_rfl) (by kernel_rfl) (fun _ _ _ h => h) (Or.inl ⟨by kernel_rfl, ?_⟩) (by assumption) ?_
  rotate_left
  · (intro w hSw; (try dsimp only at hSw); go_simp; all_goals with_reducible rfl)
  try simp only [Act.put, List.setIfInBounds_toArray, List.set_cons_zero, List.set_cons_succ]
  refine wpAnyH_take (i := 1) (oi := ⟨some 12, _, _, _, _, _⟩) (v := ?_) rfl (by kernel_rfl) (by kernel_rfl) (by kernel_rfl) (fun _ _ _ h => h) (Or.inl ⟨by kernel_rfl, ?_⟩) (by assumption) ?_
  rotate_left
  · (intro w hSw; (try dsimp only at hSw); go_simp; all_goals with_reducible rfl)
  try simp only [Act.put, List.setIfInBounds_toArray, List.set_cons_zero, List.set_cons_succ]
  refine wpAnyH_take (i := 3) (oi := ⟨some 14, _, _, _, _, _⟩) (v := ?_) rfl (by kernel_rfl) (by kernel_rfl) (by kernel_rfl) (fun _ _ _ h => h) (Or.inl ⟨by kernel_rfl, ?_⟩) (by assumption) ?_
  rotate_left
  · (intro w hSw; (try dsimp only at hSw); go_simp; all_goals with_reducible rfl)
  try simp only [Act.put, List.setIfInBounds_toArray, List.set_cons_zero, List.set_cons_succ]
  refine wpAnyH_take (i := 5) (oi := ⟨some 16, _, _, _, _, _⟩) (v := ?_) rfl (by kernel_rfl) (by kernel_rfl) (by kernel_rfl) (fun _ _ _ h => h) (Or.inl ⟨by kernel_rfl, ?_⟩) (by assumption) ?_
  rotate_left
  · (intro w hSw; (try dsimp only at hSw); go_simp; all_goals with_reducible rfl)
  try simp only [Act.put, List.setIfInBounds_toArray, List.set_cons_zero, List.set_cons_succ]
  refine wpAnyH_ready (rs := [2]) (by kernel_rfl) (by simp) ?_
  refine AllReadyH.cons rfl (fun K hK => ?_) AllReadyH.nil
  go_simp
  refine (CL.out _ (hBw.trans ((Below.refl wb.heap.size wb).drew.mono hBw.size))).mono ?_
  rintro e v1 ⟨rfl, hb1⟩
  have hB1 : Below wb.heap.size wb v1 := ((Below.refl wb.heap.size wb).drew).trans (hb1.mono ((Below.refl wb.heap.size wb).drew).size)
  clear hb1
  go_wp2_with fail
  refine hK.out _ _ (HS'.out _ (hB1)) (fun hHeld => ?_)
  clear hK K
  try simp only [Act.put, List.setIfInBounds_toArray, List.set_cons_zero, List.set_cons_succ]
  refine wpAnyH_ready (rs := [4]) (by kernel_rfl) (by simp) ?_
  refine AllReadyH.cons rfl (fun K hK => ?_) AllReadyH.nil
  go_simp
  refine (CheckLeg_is f t s o hh 0 _ h2).mono ?_
  rintro e v2 ⟨rfl, hb2⟩
  have hB2 : Below wb.heap.size wb v2 := hB1.trans (hb2.mono hB1.size)
  clear hb2
  go_wp2_with fail
  refine hK.out _ _ (HS'.out _ (hB2)) (fun hHeld => ?_)
  clear hK K
  try simp only [Act.put, List.setIfInBounds_toArray, List.set_cons_zero, List.set_cons_succ]
  refine wpAnyH_ready (rs := [6]) (by kernel_rfl) (by simp) ?_
  refine AllReadyH.cons rfl (fun K hK => ?_) AllReadyH.nil
  go_simp
  refine (checkFine_is n 0 _ h3).mono ?_
  rintro e v3 ⟨rfl, rfl⟩
  go_wp2_with fail
  refine hK.out _ _ (HS'.out _ (hB2)) (fun hHeld => ?_)
  clear hK K
  try simp only [Act.put, List.setIfInBounds_toArray, List.set_cons_zero, List.set_cons_succ]
  refine wpAnyH_ready (rs := [7]) (by kernel_rfl) (by simp) ?_
  refine AllReadyH.cons rfl (fun K hK => ?_) AllReadyH.nil
  go_simp
  go_wp2_with fail
  refine hK.out _ _ (HS'.out _ (hB2.alloc hB2.size _)) (fun hHeld => ?_)
  clear hK K
  try simp only [Act.put, List.setIfInBounds_toArray, List.set_cons_zero, List.set_cons_succ]
  refine wpAnyH_ready (rs := [8]) (by kernel_rfl) (by simp) ?_
  refine AllReadyH.cons rfl (fun K hK => ?_) AllReadyH.nil
  go_simp
  refine (cF3g 0 0 0 0 _ _ hE (by simp [go_sem]) (by simp [go_sem]) (by simp [go_sem])).mono ?_
  rintro e v3 ⟨rfl, rfl⟩
  go_wp2_with fail
  refine hK.out _ _ (HS'.out _ (hB2.alloc hB2.size _)) (fun hHeld => ?_)
  clear hK K
  try simp only [Act.put, List.setIfInBounds_toArray, List.set_cons_zero, List.set_cons_succ]
  refine wpAnyH_take (i := 9) (oi := ⟨some 10, _, _, _, _, _⟩) (v := ?_) rfl (by kernel_rfl) (by kernel_rfl) (by kernel_rfl) (fun _ _ _ h => h) (Or.inl ⟨by kernel_rfl, ?_⟩) (by assumption) ?_
  rotate_left
  · (intro w hSw; (try dsimp only at hSw); go_simp; all_goals with_reducible rfl)
  try simp only [Act.put, List.setIfInBounds_toArray, List.set_cons_zero, List.set_cons_succ]
  refine wpAnyH_done (by kernel_rfl) ?_ _
  have hB3 : ∀ (o : Obj), Below wb.heap.size wb (v2.alloc o) := fun o => hB2.alloc hB2.size o
  have hBz := hBw.size
  have HN := Lib.hid (fun (ob : Obj) => end_any f t s o hh n (stK s n) T L tb tq cap q0 qo cap' (v2.alloc ob) (by have := (hB3 ob).size; omega) (by have := (hB3 ob).size; omega) (HTL.out.1.blk (((hB3 ob).block tb (by omega)).trans (hBw.block tb htb))) (HTL.out.2.blk (((hB3 ob).block q0 (by omega)).trans (hBw.block q0 hq0))) HLG (Lib.hid (tb_of hF.out)) HP0 (Lib.hid ⟨stN_K s n, rfl⟩))
  have HB3 := Lib.hid hB3
  clear hB3
  go_wp2_with fail
  refine (HN.out _).mono ?_
  rintro e v4 ⟨q, qf, qc, rfl, e1, e2, e3, hb4⟩
  have HE := Lib.hid (And.intro e1 (And.intro e2 (And.intro e3 hb4)))
  clear e1 e2 e3 hb4
  go_wp2
  go_ret2
  obtain ⟨e1, e2, e3, hb4⟩ := HE.out
  have hz2 := hB2.size
  exact ⟨q, qf, qc, rfl, Nat.le_trans hBz (Nat.le_trans (HB3.out _).size e1), e2, e3, hBw.trans (((HB3.out _).trans (hb4.mono (HB3.out _).size)).mono hBz)⟩
end Go.Proofs.Ytfaodlcfjhnhbaa
