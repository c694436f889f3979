/- A rest at the surface, for every table and any seconds: tissue.Rested, the specification's Rested; the statements' meet. -/
import Derived.Test.YtfaodlcfjhnhbaaTLoadG
import Derived.Test.YtfaodlcfjhnhbaaTLoadN
import Derived.Deep.DrawnRows
import Derived.Outline
namespace Go.Proofs.Ytfaodlcfjhnhbaa
open Go.ChangeShapes Go.WideShapes Go.ChangeAt Go.RowKit
set_option linter.unusedVariables false
set_option linter.unusedSimpArgs false
attribute [local go_sem ↓] Go.wp_at_zero Go.wp_at_succ
/-- The loads behind a rest. -/
noncomputable def rsR (su se : Int) (T : List Cm) (L : List Ld) : List Ld := (List.range T.length).map (stepR se 20 T L ((1000 - 210 - 0) * (su - 63)) ((1000 - 210 - 0) * (su - 63)) 0 0)
set_option maxRecDepth 100000 in
set_option maxHeartbeats 2000000 in
theorem Rested_bad (T : List Cm) (L : List Ld) (A B : Option Addr) (cap cap' : Nat) (su se : Int) (E1 E : Int) (w : World) (hl : T.length ≤ 1000000) (hl' : L.length ≤ 1000000) (h1 : Hid (loadsE T L = E1)) (hE : Hid (firE [E1, rngE su 400 1100, rngE se 0 1000000] = E)) (hz : (E != 0) = true) (hT : SlCm w A T) (hL : SlLd w B L) :
    Calls Try.prog 17 #[.slice A T.length cap, .slice B L.length cap', .int .i64 su, .int .i64 se] w fun e w' => e = .returned (.tuple #[.slice none 0 0, .int .i64 E]) ∧ Below w.heap.size w w' := by
  have HT := Lib.hid hT
  have HL := Lib.hid hL
  clear hT hL
  go_enter Try.func17, Try.ntmps17
  go_wp2_with fail
  refine (CheckLoads_is T L A B cap cap' E1 _ hl hl' h1 (HT.out.below (by exact (by (repeat (first | (with_reducible refine Below.drew ?_) | (with_reducible refine below_drewN ?_ _) | (with_reducible refine Below.alloc ?_ (by first | omega | (simp; done) | (simp; omega) | (simp at *; omega)) _) | (with_reducible refine Below.setCell ?_ (by first | omega | (simp; done) | (simp; omega) | (simp at *; omega)) _) | (with_reducible exact Below.refl _ _) | (with_reducible assumption) | (with_reducible refine Below.trans ?_ (Below.mono (by assumption) (by first | omega | (simp; done) | (simp; omega) | (simp at *; omega))))))))) (HL.out.below (by exact (by (repeat (first | (with_reducible refine Below.drew ?_) | (with_reducible refine below_drewN ?_ _) | (with_reducible refine Below.alloc ?_ (by first | omega | (simp; done) | (simp; omega) | (simp at *; omega)) _) | (with_reducible refine Below.setCell ?_ (by first | omega | (simp; done) | (simp; omega) | (simp at *; omega)) _) | (with_reducible exact Below.refl _ _) | (with_reducible assumption) | (with_reducible refine Below.trans ?_ (Below.mono (by assumption) (by first | omega | (simp; done) | (simp; omega) | (simp at *; omega)))))))))).mono ?_
  rintro e v1 ⟨rfl, hb1⟩
  have hB1 : Below w.heap.size w v1 := (by (repeat (first | (with_reducible refine Below.drew ?_) | (with_reducible refine below_drewN ?_ _) | (with_reducible refine Below.alloc ?_ (by first | omega | (simp; done) | (simp; omega) | (simp at *; omega)) _) | (with_reducible refine Below.setCell ?_ (by first | omega | (simp; done) | (simp; omega) | (simp at *; omega)) _) | (with_reducible exact Below.refl _ _) | (with_reducible assumption) | (with_reducible refine Below.trans ?_ (Below.mono (by assumption) (by first | omega | (simp; done) | (simp; omega) | (simp at *; omega)))))))
  clear hb1
  go_wp2_with (first | (go_at_call 34; ((with_reducible refine (tcheckSurface_any _ _).mono ?_)); rintro e w' ⟨rfl, rfl⟩) | (go_at_call 35; ((with_reducible refine (cRange_any _ _ _ _).mono ?_)); rintro e w' ⟨rfl, rfl⟩) | (go_at_call 23; ((with_reducible refine (cF3g _ _ _ E _ _ hE (by simp [go_sem]) (by simp [go_sem]) (by simp [go_sem])).mono ?_)); rintro e w' ⟨rfl, rfl⟩))
  go_ret2
  exact ⟨rfl, hB1.alloc hB1.size _⟩
set_option maxRecDepth 100000 in
set_option maxHeartbeats 2000000 in
theorem Rested_good (T : List Cm) (L : List Ld) (A B : Option Addr) (cap cap' : Nat) (su se : Int) (n : Nat) (w : World) (hn : L.length = n) (hF : Hid (Fit T L)) (h1 : Hid (loadsE T L = 0)) (su0 : 400 ≤ su) (su1 : su ≤ 1100) (se0 : 0 ≤ se) (se1 : se ≤ 1000000) (hT : SlCm w A T) (hL : SlLd w B L) :
    Calls Try.prog 17 #[.slice A T.length cap, .slice B n cap', .int .i64 su, .int .i64 se] w (LoadG T.length (rsR su se T L) w) := by
  have hn' : n = T.length := by rw [← hn]; exact hF.out.len
  subst hn'
  have ho := hF.out.one
  have hm := hF.out.most
  have CL : Hid (∀ w', Below w.heap.size w w' → Calls Try.prog 24 #[.slice A T.length cap, .slice B T.length cap'] w' fun e w'' => e = .returned (.int .i64 0) ∧ Below w'.heap.size w' w'') := fun w' hb => CheckLoads_g T L T.length A B cap cap' 0 w' hn (by omega) (by omega) h1 (hT.below hb) (hL.below hb)
  rcases hT with hz | ⟨tb, tq, rfl, htb, hTT⟩
  · rw [hz] at ho; simp at ho
  rcases hL with hz | ⟨q0, qo, rfl, hq0, hLL⟩
  · rw [hz] at hn; simp at hn; omega
  have HTL := Lib.hid (And.intro hTT hLL)
  have hE : Hid (firE [0, rngE su 400 1100, rngE se 0 1000000] = 0) := by
    show _ = _
    rw [rngE_t (inB_true su0 su1), rngE_t (inB_true se0 se1)]; rfl
  have HP0 : Hid (L.length = T.length ∧ LdOk L) := Lib.hid ⟨hn, ldok_of hF.out⟩
  have HT0 : Hid (TbOk T) := Lib.hid (tb_of hF.out)
  obtain ⟨y0, hy0⟩ : ∃ x, Hid ((1000 - 210 - 0) * (su - 63) = x) := ⟨_, Lib.hid rfl⟩
  have hyz : Hid ((0 : Int) * (su - 63) = 0) := Lib.hid (Int.zero_mul _)
  have hyb : 0 ≤ y0 ∧ y0 ≤ 100000000 := by have := hy0.out; omega
  have hg : Hid (gasE 210 0 = 0) := Lib.hid (by decide)
  have HPE : Hid (rsR su se T L = (List.range T.length).map (stepR se 20 T L y0 y0 0 0)) := by show _ = _; rw [rsR, hy0.out]
  clear hTT hLL hn
  go_enter Try.func17, Try.ntmps17
  go_wp2_with fail
  refine (CL.out _ (by exact (by (repeat (first | (with_reducible refine Below.drew ?_) | (with_reducible refine below_drewN ?_ _) | (with_reducible refine Below.alloc ?_ (by first | omega | (simp; done) | (simp; omega) | (simp at *; omega)) _) | (with_reducible refine Below.setCell ?_ (by first | omega | (simp; done) | (simp; omega) | (simp at *; omega)) _) | (with_reducible exact Below.refl _ _) | (with_reducible assumption) | (with_reducible refine Below.trans ?_ (Below.mono (by assumption) (by first | omega | (simp; done) | (simp; omega) | (simp at *; omega))))))))).mono ?_
  rintro e v1 ⟨rfl, hb1⟩
  have hB1 : Below w.heap.size w v1 := (by (repeat (first | (with_reducible refine Below.drew ?_) | (with_reducible refine below_drewN ?_ _) | (with_reducible refine Below.alloc ?_ (by first | omega | (simp; done) | (simp; omega) | (simp at *; omega)) _) | (with_reducible refine Below.setCell ?_ (by first | omega | (simp; done) | (simp; omega) | (simp at *; omega)) _) | (with_reducible exact Below.refl _ _) | (with_reducible assumption) | (with_reducible refine Below.trans ?_ (Below.mono (by assumption) (by first | omega | (simp; done) | (simp; omega) | (simp at *; omega)))))))
  clear hb1
  go_wp2_with (first | (go_at_call 34; ((with_reducible refine (tcheckSurface_any _ _).mono ?_)); rintro e w' ⟨rfl, rfl⟩) | (go_at_call 35; ((with_reducible refine (cRange_any _ _ _ _).mono ?_)); rintro e w' ⟨rfl, rfl⟩) | (go_at_call 23; ((with_reducible refine (cF3g _ _ _ 0 _ _ hE (by simp [go_sem]) (by simp [go_sem]) (by simp [go_sem])).mono ?_)); rintro e w' ⟨rfl, rfl⟩))
  refine (exactly_any su _).mono ?_
  rintro e v2 ⟨rfl, hb2⟩
  have hB2 : Below w.heap.size w v2 := (hB1.alloc hB1.size _).trans (hb2.mono (hB1.alloc hB1.size _).size)
  clear hb2
  go_wp2_with fail
  refine (breath_y 210 0 su su y0 y0 0 0 _ hg ⟨su0, by omega⟩ ⟨su0, by omega⟩ hy0 hy0 hyz hyz).mono ?_
  rintro e v3 ⟨rfl, hb3⟩
  have hB3 : Below w.heap.size w v3 := hB2.trans (hb3.mono hB2.size)
  clear hb3
  go_upto_region 5 with (fail)
  generalize hw4 : v3.alloc (.cells #[.int .i64 y0, .int .i64 y0, .int .i64 0, .int .i64 0] 74) = w4
  have hB4 : Below w.heap.size w w4 := by rw [← hw4]; exact hB3.alloc hB3.size _
  have hl4 : v3.heap.size < w4.heap.size := by rw [← hw4]; simp
  have m0 : w4.cell? ⟨v3.heap.size, 0, none⟩ = some (.int .i64 y0) := by rw [← hw4]; simp [go_sem]
  have m1 : w4.cell? ⟨v3.heap.size, 1, none⟩ = some (.int .i64 y0) := by rw [← hw4]; simp [go_sem]
  have m2 : w4.cell? ⟨v3.heap.size, 2, none⟩ = some (.int .i64 0) := by rw [← hw4]; simp [go_sem]
  have m3 : w4.cell? ⟨v3.heap.size, 3, none⟩ = some (.int .i64 0) := by rw [← hw4]; simp [go_sem]
  have HS : ∀ w', Below w4.heap.size w4 w' → w'.cell? ⟨v3.heap.size, 0, none⟩ = some (.int .i64 y0) ∧ w'.cell? ⟨v3.heap.size, 1, none⟩ = some (.int .i64 y0) ∧ w'.cell? ⟨v3.heap.size, 2, none⟩ = some (.int .i64 0) ∧ w'.cell? ⟨v3.heap.size, 3, none⟩ = some (.int .i64 0) := fun w' hb => ⟨(hb.cell (p := ⟨v3.heap.size, 0, none⟩) hl4).trans m0, (hb.cell (p := ⟨v3.heap.size, 1, none⟩) hl4).trans m1, (hb.cell (p := ⟨v3.heap.size, 2, none⟩) hl4).trans m2, (hb.cell (p := ⟨v3.heap.size, 3, none⟩) hl4).trans m3⟩
  have HS' := Lib.hid HS
  clear HS m0 m1 m2 m3 hw4
  refine wp_region_held_drew (S := (fun w' => w'.cell? ⟨v3.heap.size, 0, none⟩ = some (.int .i64 y0) ∧ w'.cell? ⟨v3.heap.size, 1, none⟩ = some (.int .i64 y0) ∧ w'.cell? ⟨v3.heap.size, 2, none⟩ = some (.int .i64 0) ∧ w'.cell? ⟨v3.heap.size, 3, none⟩ = some (.int .i64 0))) (by kernel_rfl) (by exact HS'.out _ (Below.refl w4.heap.size w4).drew) (fun hHeld => ?_)
  have hC0 : Below w4.heap.size w4 w4.drew := (Below.refl w4.heap.size w4).drew
  generalize hdr : w4.drew = u0 at *
  clear hdr
  have hz4 := hB4.size
  refine wpAnyH_take (i := 0) (oi := ⟨some 28, _, _, _, _, _⟩) (v := ?_) rfl (by kernel_rfl) (by kernel_rfl) (by kernel_rfl) (fun _ _ _ h => h) (Or.inl ⟨by kernel_rfl, ?_⟩) (by assumption) ?_
  rotate_left
  · (intro w hSw; (try dsimp only at hSw); go_simp; all_goals with_reducible rfl)
  try simp only [Act.put, List.setIfInBounds_toArray, List.set_cons_zero, List.set_cons_succ]
  refine wpAnyH_take (i := 1) (oi := ⟨some 29, _, _, _, _, _⟩) (v := ?_) rfl (by kernel_rfl) (by kernel_rfl) (by kernel_rfl) (fun _ _ _ h => h) (Or.inl ⟨by kernel_rfl, ?_⟩) (by assumption) ?_
  rotate_left
  · (intro w hSw; (try dsimp only at hSw); go_simp; all_goals with_reducible rfl)
  try simp only [Act.put, List.setIfInBounds_toArray, List.set_cons_zero, List.set_cons_succ]
  refine wpAnyH_take (i := 2) (oi := ⟨some 30, _, _, _, _, _⟩) (v := ?_) rfl (by kernel_rfl) (by kernel_rfl) (by kernel_rfl) (fun _ _ _ h => h) (Or.inl ⟨by kernel_rfl, ?_⟩) (by assumption) ?_
  rotate_left
  · (intro w hSw; (try dsimp only at hSw); go_simp; all_goals with_reducible rfl)
  try simp only [Act.put, List.setIfInBounds_toArray, List.set_cons_zero, List.set_cons_succ]
  refine wpAnyH_take (i := 3) (oi := ⟨some 31, _, _, _, _, _⟩) (v := ?_) rfl (by kernel_rfl) (by kernel_rfl) (by kernel_rfl) (fun _ _ _ h => h) (Or.inl ⟨by kernel_rfl, ?_⟩) (by assumption) ?_
  rotate_left
  · (intro w hSw; (try dsimp only at hSw); go_simp; all_goals with_reducible rfl)
  try simp only [Act.put, List.setIfInBounds_toArray, List.set_cons_zero, List.set_cons_succ]
  refine wpAnyH_ready (rs := [4]) (by kernel_rfl) (by simp) ?_
  refine AllReadyH.cons rfl (fun K hK => ?_) (AllReadyH.nil)
  go_simp
  have hRT : Calls Try.prog 40 #[.int .i64 20] u0 (fun e w' => ∃ v, e = .returned v ∧ RootsAt w' v 20 u0.heap.size ∧ Below u0.heap.size u0 w') := rootsTo_any 20 u0 (by omega)
  refine hRT.mono ?_
  rintro e u1 ⟨v, rfl, hR, hb⟩
  clear hRT
  obtain ⟨rb, rcap, rfl, rlt, rge, hc1, hc2, hcell⟩ := hR
  have HR : Hid (RtAt u1 rb 20) := hcell
  have HC2 := Lib.hid (And.intro hc1 hc2)
  have hC1 : Below w4.heap.size w4 u1 := hC0.trans (hb.mono hC0.size)
  clear hcell hb hc1 hc2
  go_wp2_with fail
  refine hK.out _ _ (HS'.out _ (hC1)) (fun hHeld => ?_)
  clear hK K
  try simp only [Act.put, List.setIfInBounds_toArray, List.set_cons_zero, List.set_cons_succ]
  refine wpAnyH_ready (rs := [5]) (by kernel_rfl) (by simp) ?_
  refine AllReadyH.cons rfl (fun K hK => ?_) (AllReadyH.nil)
  go_simp
  have hD1 : Below w.heap.size w u1 := hB4.trans (hC1.mono hB4.size)
  refine (decaysOf_all T (some ⟨tb, tq, none⟩) cap se 20 rb rcap u1 HT0.out.1 HT0.out.2.1 HT0.out.2.2 se0 se1 (by omega) rlt HC2.out.1 HC2.out.2 HR.out (Or.inr ⟨tb, tq, rfl, Nat.lt_of_lt_of_le htb hD1.size, HTL.out.1.blk (hD1.block tb htb)⟩)).mono ?_
  rintro e u2 ⟨bb, rfl, hbb1, hSl, hb⟩
  obtain ⟨bl, hDL⟩ := hSl.lies (by simp; omega)
  have hDD := Lib.hid hDL
  have hC2 : Below w4.heap.size w4 u2 := hC1.trans (hb.mono hC1.size)
  clear hb hSl hDL
  go_wp2_with fail
  refine hK.out _ _ (HS'.out _ (hC2)) (fun hHeld => ?_)
  clear hK K
  try simp only [Act.put, List.setIfInBounds_toArray, List.set_cons_zero, List.set_cons_succ]
  refine wpAnyH_ready (rs := [6]) (by kernel_rfl) (by simp) ?_
  refine AllReadyH.cons rfl (fun K hK => ?_) (AllReadyH.nil)
  go_simp
  have hD2 : Below w.heap.size w u2 := hB4.trans (hC2.mono hB4.size)
  refine (behind_y T L se y0 y0 0 0 20 q0 qo cap' bb u2 HT0 HP0 hyb hyb (by omega) (by omega) (Nat.lt_of_lt_of_le hq0 hD2.size) (HTL.out.2.blk (hD2.block q0 hq0)) bl hDD.out).mono ?_
  rintro e u3 ⟨bn, rfl, hn1, hn2, hLn, hb⟩
  have hC3 : Below w4.heap.size w4 u3 := hC2.trans (hb.mono hC2.size)
  have HLN := Lib.hid hLn
  have hn3 : w.heap.size ≤ bn := Nat.le_trans hD2.size hn1
  clear hb hLn
  go_wp2_with fail
  refine hK.out _ _ (HS'.out _ (hC3)) (fun hHeld => ?_)
  clear hK K
  try simp only [Act.put, List.setIfInBounds_toArray, List.set_cons_zero, List.set_cons_succ]
  refine wpAnyH_take (i := 7) (oi := ⟨some 8, _, _, _, _, _⟩) (v := ?_) rfl (by kernel_rfl) (by kernel_rfl) (by kernel_rfl) (fun _ _ _ h => h) (Or.inl ⟨by kernel_rfl, ?_⟩) (by assumption) ?_
  rotate_left
  · (intro w hSw; (try dsimp only at hSw); go_simp; all_goals with_reducible rfl)
  try simp only [Act.put, List.setIfInBounds_toArray, List.set_cons_zero, List.set_cons_succ]
  refine wpAnyH_take (i := 8) (oi := ⟨some 9, _, _, _, _, _⟩) (v := ?_) rfl (by kernel_rfl) (by kernel_rfl) (by kernel_rfl) (fun _ _ _ h => h) (Or.inl ⟨by kernel_rfl, ?_⟩) (by assumption) ?_
  rotate_left
  · (intro w hSw; (try dsimp only at hSw); go_simp; all_goals with_reducible rfl)
  try simp only [Act.put, List.setIfInBounds_toArray, List.set_cons_zero, List.set_cons_succ]
  refine wpAnyH_done (by kernel_rfl) ?_ _
  go_wp2
  go_ret2
  refine ⟨bn, 0, T.length, rfl, hn3, hn2, ?_, hB4.trans (hC3.mono hB4.size)⟩
  rw [HPE.out]
  exact HLN.out
end Go.Proofs.Ytfaodlcfjhnhbaa
