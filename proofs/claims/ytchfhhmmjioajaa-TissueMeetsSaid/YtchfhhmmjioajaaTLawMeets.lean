/- The walk of shotlinelaw03.TissueMeets: it returns true. -/
import Derived.Test.YtchfhhmmjioajaaTLawMeets1
import Derived.Test.YtchfhhmmjioajaaMRefRoots
import Derived.Test.YtchfhhmmjioajaaMSmall
import Derived.Test.YtchfhhmmjioajaaLastReg
import Derived.Outline
namespace Go.Proofs.Ytchfhhmmjioajaa
open Go.ChangeShapes Go.WideShapes Go.ChangeAt Go.RowKit
set_option linter.unusedVariables false
set_option linter.unusedSimpArgs false
attribute [local go_sem ↓] Go.wp_at_zero Go.wp_at_succ
set_option maxRecDepth 100000 in
set_option maxHeartbeats 8000000 in
theorem tissueMeets_good (T : List Cm) (L : List Ld) (A B : Option Addr) (cap cap' : Nat) (fr tz se o hh fi fn : Int) (I : List Int) (C : Option Addr) (capi : Nat) (w : World) (hl : T.length ≤ 9223372036854775807) (hl' : L.length ≤ 9223372036854775807) (hA : A = none → cap = 0) (hB : B = none → cap' = 0) (hT : SlCm w A T) (hL : SlLd w B L) (hlI : I.length ≤ 9223372036854775807) (hC : C = none → capi = 0) (hI : SlIn w C I) (hf : fewB T.length = true) (hz : firE [loadsE T L, legE fr tz se o hh, rngE fi 0 6] = 0) (hn : inB fn 0 6 = true) :
    Calls Try.prog 7 #[.agg #[.slice A T.length cap, .slice B L.length cap', .int .i64 fr, .int .i64 tz, .int .i64 se, .int .i64 o, .int .i64 hh, .int .i64 fi], .int .i64 fn, .slice C I.length capi] w fun e w' => e = .returned (.bool true) ∧ Below w.heap.size w w' := by
  have HT := Lib.hid hT
  have HL := Lib.hid hL
  have HNA := Lib.hid hA
  have HNB := Lib.hid hB
  have HI := Lib.hid hI
  clear hT hL hA hB hI
  have HF := Lib.hid (fun w => few_is T.length A cap true w (Lib.hid hf))
  have hlt := few_to hf
  clear hf
  obtain ⟨q, hq⟩ : ∃ z, Hid (loadsE T L = z) := ⟨_, Lib.hid rfl⟩
  obtain ⟨g, hg⟩ : ∃ z, Hid (legE fr tz se o hh = z) := ⟨_, Lib.hid rfl⟩
  obtain ⟨E, hE⟩ : ∃ z, Hid (firE [q, g, rngE fi 0 6] = z) := ⟨_, Lib.hid rfl⟩
  have HCK := Lib.hid (fun w hT hL => lawCheck_is T L A B cap cap' fr tz se o hh fi q g E w hl hl' hq hg hE (Lib.hid hT) (Lib.hid hL))
  have hEz : E = 0 := by rw [← hE.out, ← hq.out, ← hg.out]; exact hz
  subst hEz
  have HIF := Lib.hid (fun w => isFine_is fn true w (Lib.hid hn))
  obtain ⟨q0, g0, v0⟩ := firE3_z hE.out
  obtain ⟨fi0, fi1⟩ := rng0 v0
  obtain ⟨fn0, fn1⟩ := inB_iff.1 hn
  obtain ⟨n, rfl⟩ := Int.eq_ofNat_of_zero_le fi0
  obtain ⟨m, rfl⟩ := Int.eq_ofNat_of_zero_le fn0
  have hn6 : n ≤ 6 := by omega
  have hm6 : m ≤ 6 := by omega
  subst q0 g0
  have hF := Lib.hid (fit_of hq.out)
  have hll : L.length ≤ 16 := by rw [hF.out.len]; exact hF.out.most
  obtain ⟨PA, hPA⟩ : ∃ z, Hid (ldR fr tz se n o hh T L (stK se n) = z) := ⟨_, Lib.hid rfl⟩
  obtain ⟨PB, hPB⟩ : ∃ z, Hid (ldR fr tz se m o hh T L (stK se m) = z) := ⟨_, Lib.hid rfl⟩
  obtain ⟨PO, hPO⟩ : ∃ z, Hid (owL L I L.length = z) := ⟨_, Lib.hid rfl⟩
  obtain ⟨PC, hPC⟩ : ∃ z, Hid (ldR fr tz se n o hh T PO (stK se n) = z) := ⟨_, Lib.hid rfl⟩
  have fA : Hid (loadsE T PA = 0) := Lib.hid (by rw [← hPA.out]; exact ldR_fit hq.out hg.out hn6 (Nat.le_refl _))
  have fO : Hid (loadsE T PO = 0) := Lib.hid (by rw [← hPO.out]; exact owL_fit hq.out I)
  have fB : Hid (loadsE T PB = 0) := Lib.hid (by rw [← hPB.out]; exact ldR_fit hq.out hg.out hm6 (Nat.le_refl _))
  have fC : Hid (loadsE T PC = 0) := Lib.hid (by rw [← hPC.out]; exact ldR_fit fO.out hg.out hn6 (Nat.le_refl _))
  have lA : Hid (PA.length = T.length) := Lib.hid (fit_of fA.out).len
  have lB : Hid (PB.length = T.length) := Lib.hid (fit_of fB.out).len
  have lC : Hid (PC.length = T.length) := Lib.hid (fit_of fC.out).len
  have lO : Hid (PO.length = L.length) := Lib.hid (by rw [← hPO.out]; simp [owL])
  have hTk := tb_of hF.out
  have mAB : Hid (MeetL PA PB) := Lib.hid (by rw [← hPA.out, ← hPB.out]; exact leg_meets hTk hg.out hF.out.len hF.out.len (self_meet hF.out))
  have mCB : Hid (MeetL PC PB) := Lib.hid (by rw [← hPC.out, ← hPB.out]; exact leg_meets hTk hg.out (fit_of fO.out).len hF.out.len (by rw [← hPO.out]; exact owL_meet hF.out I))
  have hin := inside_of fC.out fA.out (by rw [← hPC.out, ← hPA.out]; exact ldR_in hTk (fit_of fO.out).len hF.out.len (by rw [← hPO.out]; exact owL_in hF.out I) _)
  have HIN : Hid (∀ (u : World) (A2 B2 : Option Addr) (c2 c3 : Nat), SlLd u A2 PC → SlLd u B2 PA → Calls Try.prog 41 #[.slice A2 T.length c2, .slice B2 T.length c3] u fun e w' => e = .returned (.tuple #[.bool true, .int .i64 0]) ∧ Below u.heap.size u w') := fun u A2 B2 c2 c3 h1 h2 => by
    have := Inside_any PC PA A2 B2 c2 c3 u (by rw [lC.out]; omega) (by rw [lA.out]; omega) h1 h2
    unfold InsideP at this
    rw [hin.1, hin.2, if_pos rfl, lC.out, lA.out] at this
    exact this
  have HOW : Hid (∀ k, k < L.length → ∃ x y z u r1 r2, (L.getD k default).a = x ∧ (L.getD k default).b = y ∧ (L.getD k default).c = z ∧ (L.getD k default).d = u ∧ (0 ≤ x ∧ x ≤ y ∧ y ≤ 100000000) ∧ (0 ≤ z ∧ z ≤ u ∧ u ≤ 100000000) ∧ modI (I.getD k 0) (y - x + 1) = r1 ∧ modI (I.getD k 0) (u - z + 1) = r2 ∧ (0 ≤ r1 ∧ r1 ≤ 100000000) ∧ (0 ≤ r2 ∧ r2 ≤ 100000000) ∧ ow L I k = ⟨x + r1, x + r1, z + r2, z + r2⟩) := fun k hk => by
    obtain ⟨a, b, e⟩ := ow_at hF.out I hk
    have m1 := modI_bd (I.getD k 0) (b := L[k].b - L[k].a + 1) (by omega)
    have m2 := modI_bd (I.getD k 0) (b := L[k].d - L[k].c + 1) (by omega)
    refine ⟨L[k].a, L[k].b, L[k].c, L[k].d, _, _, by rw [getD_of hk], by rw [getD_of hk], by rw [getD_of hk], by rw [getD_of hk], a, b, rfl, rfl, by omega, by omega, e⟩
  clear hz hn fi0 fi1 fn0 fn1 hin hTk
  go_enter Try.func7, Try.ntmps7
  go_wp2_with fail
  refine (tawake_any _).mono ?_
  rintro e w1 ⟨rfl, hb1⟩
  have za := hb1.size
  try simp at za
  have a0 : w1.cell? ⟨w.heap.size, 0, none⟩ = some (.slice A T.length cap) := (by rw [(bcell hb1).1 _ _ (by first | (simp; done) | (simp; omega) | omega)]; simp [go_sem, World.cell?_alloc_past, *])
  have a1 : w1.cell? ⟨w.heap.size, 1, none⟩ = some (.slice B L.length cap') := (by rw [(bcell hb1).1 _ _ (by first | (simp; done) | (simp; omega) | omega)]; simp [go_sem, World.cell?_alloc_past, *])
  have a2 : w1.cell? ⟨w.heap.size, 2, none⟩ = some (.int .i64 fr) := (by rw [(bcell hb1).1 _ _ (by first | (simp; done) | (simp; omega) | omega)]; simp [go_sem, World.cell?_alloc_past, *])
  have a3 : w1.cell? ⟨w.heap.size, 3, none⟩ = some (.int .i64 tz) := (by rw [(bcell hb1).1 _ _ (by first | (simp; done) | (simp; omega) | omega)]; simp [go_sem, World.cell?_alloc_past, *])
  have a4 : w1.cell? ⟨w.heap.size, 4, none⟩ = some (.int .i64 se) := (by rw [(bcell hb1).1 _ _ (by first | (simp; done) | (simp; omega) | omega)]; simp [go_sem, World.cell?_alloc_past, *])
  have a5 : w1.cell? ⟨w.heap.size, 5, none⟩ = some (.int .i64 o) := (by rw [(bcell hb1).1 _ _ (by first | (simp; done) | (simp; omega) | omega)]; simp [go_sem, World.cell?_alloc_past, *])
  have a6 : w1.cell? ⟨w.heap.size, 6, none⟩ = some (.int .i64 hh) := (by rw [(bcell hb1).1 _ _ (by first | (simp; done) | (simp; omega) | omega)]; simp [go_sem, World.cell?_alloc_past, *])
  have a7 : w1.cell? ⟨w.heap.size, 7, none⟩ = some (.int .i64 (n : Int)) := (by rw [(bcell hb1).1 _ _ (by first | (simp; done) | (simp; omega) | omega)]; simp [go_sem, World.cell?_alloc_past, *])
  have aB : Below w.heap.size w w1 := (by (repeat (first | (with_reducible refine Below.drew ?_) | (with_reducible refine below_drewN ?_ _) | (with_reducible refine Below.alloc ?_ (by first | omega | (simp; done) | (simp; omega) | (simp at *; omega)) _) | (with_reducible refine Below.setCell ?_ (by first | omega | (simp; done) | (simp; omega) | (simp at *; omega)) _) | (with_reducible exact Below.refl _ _) | (with_reducible assumption) | (with_reducible refine Below.trans ?_ (Below.mono (by assumption) (by first | omega | (simp; done) | (simp; omega) | (simp at *; omega)))))))
  have ao0 : w.heap.size < w1.heap.size := by omega
  have an0 : w1.heap.size ≠ w.heap.size := by omega
  clear hb1
  go_wp2_with ((go_at_call 21; ((with_reducible refine (HF.out _).mono ?_)); rintro e w' ⟨rfl, rfl⟩))
  refine (HCK.out _ (HT.out.below (by exact (by (repeat (first | (with_reducible refine Below.drew ?_) | (with_reducible refine below_drewN ?_ _) | (with_reducible refine Below.alloc ?_ (by first | omega | (simp; done) | (simp; omega) | (simp at *; omega)) _) | (with_reducible refine Below.setCell ?_ (by first | omega | (simp; done) | (simp; omega) | (simp at *; omega)) _) | (with_reducible exact Below.refl _ _) | (with_reducible assumption) | (with_reducible refine Below.trans ?_ (Below.mono (by assumption) (by first | omega | (simp; done) | (simp; omega) | (simp at *; omega))))))))) (HL.out.below (by exact (by (repeat (first | (with_reducible refine Below.drew ?_) | (with_reducible refine below_drewN ?_ _) | (with_reducible refine Below.alloc ?_ (by first | omega | (simp; done) | (simp; omega) | (simp at *; omega)) _) | (with_reducible refine Below.setCell ?_ (by first | omega | (simp; done) | (simp; omega) | (simp at *; omega)) _) | (with_reducible exact Below.refl _ _) | (with_reducible assumption) | (with_reducible refine Below.trans ?_ (Below.mono (by assumption) (by first | omega | (simp; done) | (simp; omega) | (simp at *; omega)))))))))).mono ?_
  rintro e w2 ⟨rfl, hb2⟩
  have zb := hb2.size
  try simp at zb
  have b0 : w2.cell? ⟨w.heap.size, 0, none⟩ = some (.slice A T.length cap) := (by rw [(bcell hb2).1 _ _ (by first | (simp; done) | (simp; omega) | omega)]; simp [go_sem, World.cell?_alloc_past, *])
  have b1 : w2.cell? ⟨w.heap.size, 1, none⟩ = some (.slice B L.length cap') := (by rw [(bcell hb2).1 _ _ (by first | (simp; done) | (simp; omega) | omega)]; simp [go_sem, World.cell?_alloc_past, *])
  have b2 : w2.cell? ⟨w.heap.size, 2, none⟩ = some (.int .i64 fr) := (by rw [(bcell hb2).1 _ _ (by first | (simp; done) | (simp; omega) | omega)]; simp [go_sem, World.cell?_alloc_past, *])
  have b3 : w2.cell? ⟨w.heap.size, 3, none⟩ = some (.int .i64 tz) := (by rw [(bcell hb2).1 _ _ (by first | (simp; done) | (simp; omega) | omega)]; simp [go_sem, World.cell?_alloc_past, *])
  have b4 : w2.cell? ⟨w.heap.size, 4, none⟩ = some (.int .i64 se) := (by rw [(bcell hb2).1 _ _ (by first | (simp; done) | (simp; omega) | omega)]; simp [go_sem, World.cell?_alloc_past, *])
  have b5 : w2.cell? ⟨w.heap.size, 5, none⟩ = some (.int .i64 o) := (by rw [(bcell hb2).1 _ _ (by first | (simp; done) | (simp; omega) | omega)]; simp [go_sem, World.cell?_alloc_past, *])
  have b6 : w2.cell? ⟨w.heap.size, 6, none⟩ = some (.int .i64 hh) := (by rw [(bcell hb2).1 _ _ (by first | (simp; done) | (simp; omega) | omega)]; simp [go_sem, World.cell?_alloc_past, *])
  have b7 : w2.cell? ⟨w.heap.size, 7, none⟩ = some (.int .i64 (n : Int)) := (by rw [(bcell hb2).1 _ _ (by first | (simp; done) | (simp; omega) | omega)]; simp [go_sem, World.cell?_alloc_past, *])
  have bB : Below w.heap.size w w2 := (by (repeat (first | (with_reducible refine Below.drew ?_) | (with_reducible refine below_drewN ?_ _) | (with_reducible refine Below.alloc ?_ (by first | omega | (simp; done) | (simp; omega) | (simp at *; omega)) _) | (with_reducible refine Below.setCell ?_ (by first | omega | (simp; done) | (simp; omega) | (simp at *; omega)) _) | (with_reducible exact Below.refl _ _) | (with_reducible assumption) | (with_reducible refine Below.trans ?_ (Below.mono (by assumption) (by first | omega | (simp; done) | (simp; omega) | (simp at *; omega)))))))
  have bo0 : w.heap.size < w2.heap.size := by omega
  have bn0 : w2.heap.size ≠ w.heap.size := by omega
  clear hb2 a0 a1 a2 a3 a4 a5 a6 a7 aB ao0 an0
  go_upto_region 5 with ((go_at_call 38; ((with_reducible refine (HIF.out _).mono ?_)); rintro e w' ⟨rfl, rfl⟩))
  go_cut [7, 8] from 20 (fun s7 s8 wx => ∃ q3 qf qc, s7 = .slice (some ⟨q3, qf, none⟩) T.length qc ∧ s8 = .int .i64 0 ∧ q3 < wx.heap.size ∧ LdAt wx q3 qf PA ∧ Below w2.heap.size w2 wx)
  case first =>
    have HS : ∀ w', Below w2.heap.size w2 w' → w'.cell? ⟨w.heap.size, 0, none⟩ = some (.slice A T.length cap) ∧ w'.cell? ⟨w.heap.size, 1, none⟩ = some (.slice B L.length cap') ∧ w'.cell? ⟨w.heap.size, 2, none⟩ = some (.int .i64 fr) ∧ w'.cell? ⟨w.heap.size, 3, none⟩ = some (.int .i64 tz) ∧ w'.cell? ⟨w.heap.size, 4, none⟩ = some (.int .i64 se) ∧ w'.cell? ⟨w.heap.size, 5, none⟩ = some (.int .i64 o) ∧ w'.cell? ⟨w.heap.size, 6, none⟩ = some (.int .i64 hh) ∧ w'.cell? ⟨w.heap.size, 7, none⟩ = some (.int .i64 (n : Int)) := fun w' hb => ⟨(hb.cell (p := ⟨w.heap.size, 0, none⟩) bo0).trans b0, (hb.cell (p := ⟨w.heap.size, 1, none⟩) bo0).trans b1, (hb.cell (p := ⟨w.heap.size, 2, none⟩) bo0).trans b2, (hb.cell (p := ⟨w.heap.size, 3, none⟩) bo0).trans b3, (hb.cell (p := ⟨w.heap.size, 4, none⟩) bo0).trans b4, (hb.cell (p := ⟨w.heap.size, 5, none⟩) bo0).trans b5, (hb.cell (p := ⟨w.heap.size, 6, none⟩) bo0).trans b6, (hb.cell (p := ⟨w.heap.size, 7, none⟩) bo0).trans b7⟩
    have HS' := Lib.hid HS
    clear HS
    refine wp_region_held_drew (S := (fun w' => w'.cell? ⟨w.heap.size, 0, none⟩ = some (.slice A T.length cap) ∧ w'.cell? ⟨w.heap.size, 1, none⟩ = some (.slice B L.length cap') ∧ w'.cell? ⟨w.heap.size, 2, none⟩ = some (.int .i64 fr) ∧ w'.cell? ⟨w.heap.size, 3, none⟩ = some (.int .i64 tz) ∧ w'.cell? ⟨w.heap.size, 4, none⟩ = some (.int .i64 se) ∧ w'.cell? ⟨w.heap.size, 5, none⟩ = some (.int .i64 o) ∧ w'.cell? ⟨w.heap.size, 6, none⟩ = some (.int .i64 hh) ∧ w'.cell? ⟨w.heap.size, 7, none⟩ = some (.int .i64 (n : Int)))) (by kernel_rfl) (by exact HS'.out _ (Below.refl w2.heap.size w2).drew) (fun hHeld => ?_)
    refine wpAnyH_take (i := 0) (oi := ⟨some 37, _, _, _, _, _⟩) (v := ?_) rfl (by kernel_rfl) (by kernel_rfl) (by kernel_rfl) (fun _ _ _ h => h) (Or.inl ⟨by kernel_rfl, ?_⟩) (by assumption) ?_
    rotate_left
    · (intro w hSw; (try dsimp only at hSw); go_simp; all_goals with_reducible rfl)
    try simp only [Act.put, List.setIfInBounds_toArray, List.set_cons_zero, List.set_cons_succ]
    refine wpAnyH_take (i := 1) (oi := ⟨some 38, _, _, _, _, _⟩) (v := ?_) rfl (by kernel_rfl) (by kernel_rfl) (by kernel_rfl) (fun _ _ _ h => h) (Or.inl ⟨by kernel_rfl, ?_⟩) (by assumption) ?_
    rotate_left
    · (intro w hSw; (try dsimp only at hSw); go_simp; all_goals with_reducible rfl)
    try simp only [Act.put, List.setIfInBounds_toArray, List.set_cons_zero, List.set_cons_succ]
    refine wpAnyH_take (i := 3) (oi := ⟨some 40, _, _, _, _, _⟩) (v := ?_) rfl (by kernel_rfl) (by kernel_rfl) (by kernel_rfl) (fun _ _ _ h => h) (Or.inl ⟨by kernel_rfl, ?_⟩) (by assumption) ?_
    rotate_left
    · (intro w hSw; (try dsimp only at hSw); go_simp; all_goals with_reducible rfl)
    try simp only [Act.put, List.setIfInBounds_toArray, List.set_cons_zero, List.set_cons_succ]
    refine wpAnyH_take (i := 4) (oi := ⟨some 41, _, _, _, _, _⟩) (v := ?_) rfl (by kernel_rfl) (by kernel_rfl) (by kernel_rfl) (fun _ _ _ h => h) (Or.inl ⟨by kernel_rfl, ?_⟩) (by assumption) ?_
    rotate_left
    · (intro w hSw; (try dsimp only at hSw); go_simp; all_goals with_reducible rfl)
    try simp only [Act.put, List.setIfInBounds_toArray, List.set_cons_zero, List.set_cons_succ]
    refine wpAnyH_take (i := 6) (oi := ⟨some 43, _, _, _, _, _⟩) (v := ?_) rfl (by kernel_rfl) (by kernel_rfl) (by kernel_rfl) (fun _ _ _ h => h) (Or.inl ⟨by kernel_rfl, ?_⟩) (by assumption) ?_
    rotate_left
    · (intro w hSw; (try dsimp only at hSw); go_simp; all_goals with_reducible rfl)
    try simp only [Act.put, List.setIfInBounds_toArray, List.set_cons_zero, List.set_cons_succ]
    refine wpAnyH_take (i := 7) (oi := ⟨some 44, _, _, _, _, _⟩) (v := ?_) rfl (by kernel_rfl) (by kernel_rfl) (by kernel_rfl) (fun _ _ _ h => h) (Or.inl ⟨by kernel_rfl, ?_⟩) (by assumption) ?_
    rotate_left
    · (intro w hSw; (try dsimp only at hSw); go_simp; all_goals with_reducible rfl)
    try simp only [Act.put, List.setIfInBounds_toArray, List.set_cons_zero, List.set_cons_succ]
    refine wpAnyH_take (i := 8) (oi := ⟨some 45, _, _, _, _, _⟩) (v := ?_) rfl (by kernel_rfl) (by kernel_rfl) (by kernel_rfl) (fun _ _ _ h => h) (Or.inl ⟨by kernel_rfl, ?_⟩) (by assumption) ?_
    rotate_left
    · (intro w hSw; (try dsimp only at hSw); go_simp; all_goals with_reducible rfl)
    try simp only [Act.put, List.setIfInBounds_toArray, List.set_cons_zero, List.set_cons_succ]
    refine wpAnyH_take (i := 9) (oi := ⟨some 46, _, _, _, _, _⟩) (v := ?_) rfl (by kernel_rfl) (by kernel_rfl) (by kernel_rfl) (fun _ _ _ h => h) (Or.inl ⟨by kernel_rfl, ?_⟩) (by assumption) ?_
    rotate_left
    · (intro w hSw; (try dsimp only at hSw); go_simp; all_goals with_reducible rfl)
    try simp only [Act.put, List.setIfInBounds_toArray, List.set_cons_zero, List.set_cons_succ]
    have hB0 : Below w2.heap.size w2 w2.drew := (Below.refl w2.heap.size w2).drew
    generalize hdr : w2.drew = u0 at *
    clear hdr
    refine wpAnyH_ready (rs := [2]) (by kernel_rfl) (by simp) ?_
    refine AllReadyH.cons rfl (fun K hK => ?_) (AllReadyH.nil)
    go_simp
    refine (lawTable_any T A cap _ (by omega) HNA.out (HT.out.below (bB.trans ((hB0).mono bB.size)))).mono ?_
    rintro e u1 ⟨A2, cap2, rfl, hS, _, hb1⟩
    have HT1 := Lib.hid hS
    clear hS
    have hB1 : Below w2.heap.size w2 u1 := hB0.trans (hb1.mono hB0.size)
    go_wp2_with fail
    refine hK.out _ _ (HS'.out _ (hB1)) (fun hHeld => ?_)
    clear hK K
    try simp only [Act.put, List.setIfInBounds_toArray, List.set_cons_zero, List.set_cons_succ]
    refine wpAnyH_ready (rs := [5]) (by kernel_rfl) (by simp) ?_
    refine AllReadyH.cons rfl (fun K hK => ?_) (AllReadyH.nil)
    go_simp
    refine (lawLoads_any L B cap' _ (by omega) HNB.out (HL.out.below (bB.trans ((hB1).mono bB.size)))).mono ?_
    rintro e u2 ⟨A3, cap3, rfl, hS, _, hb2⟩
    have HL2 := Lib.hid hS
    clear hS
    have HT2 := Lib.hid (HT1.out.below hb2)
    have hB2 : Below w2.heap.size w2 u2 := hB1.trans (hb2.mono hB1.size)
    go_wp2_with fail
    refine hK.out _ _ (HS'.out _ (hB2)) (fun hHeld => ?_)
    clear hK K
    try simp only [Act.put, List.setIfInBounds_toArray, List.set_cons_zero, List.set_cons_succ]
    refine wpAnyH_ready (rs := [10]) (by kernel_rfl) (by simp) ?_
    refine AllReadyH.cons rfl (fun K hK => ?_) (AllReadyH.nil)
    go_simp
    refine (Loaded_n T L L.length A2 A3 cap2 cap3 fr tz se o hh n PA _ rfl hq hg hn6 hPA HT2.out HL2.out).mono ?_
    rintro e u3 ⟨q3, qf, qc, rfl, hq1, hq2, hLL, hb3⟩
    have HLL := Lib.hid (And.intro hq2 hLL)
    clear hLL hq1 hq2
    have hB3 : Below w2.heap.size w2 u3 := hB2.trans (hb3.mono hB2.size)
    go_wp2_with fail
    refine hK.out _ _ (HS'.out _ (hB3)) (fun hHeld => ?_)
    clear hK K
    try simp only [Act.put, List.setIfInBounds_toArray, List.set_cons_zero, List.set_cons_succ]
    refine wpAnyH_take (i := 11) (oi := ⟨some 36, _, _, _, _, _⟩) (v := ?_) rfl (by kernel_rfl) (by kernel_rfl) (by kernel_rfl) (fun _ _ _ h => h) (Or.inl ⟨by kernel_rfl, ?_⟩) (by assumption) ?_
    rotate_left
    · (intro w hSw; (try dsimp only at hSw); go_simp; all_goals with_reducible rfl)
    try simp only [Act.put, List.setIfInBounds_toArray, List.set_cons_zero, List.set_cons_succ]
    refine wpAnyH_take (i := 12) (oi := ⟨some 48, _, _, _, _, _⟩) (v := ?_) rfl (by kernel_rfl) (by kernel_rfl) (by kernel_rfl) (fun _ _ _ h => h) (Or.inl ⟨by kernel_rfl, ?_⟩) (by assumption) ?_
    rotate_left
    · (intro w hSw; (try dsimp only at hSw); go_simp; all_goals with_reducible rfl)
    try simp only [Act.put, List.setIfInBounds_toArray, List.set_cons_zero, List.set_cons_succ]
    refine wpAnyH_take (i := 13) (oi := ⟨some 49, _, _, _, _, _⟩) (v := ?_) rfl (by kernel_rfl) (by kernel_rfl) (by kernel_rfl) (fun _ _ _ h => h) (Or.inl ⟨by kernel_rfl, ?_⟩) (by assumption) ?_
    rotate_left
    · (intro w hSw; (try dsimp only at hSw); go_simp; all_goals with_reducible rfl)
    try simp only [Act.put, List.setIfInBounds_toArray, List.set_cons_zero, List.set_cons_succ]
    refine wpAnyH_take (i := 14) (oi := ⟨some 7, _, _, _, _, _⟩) (v := ?_) rfl (by kernel_rfl) (by kernel_rfl) (by kernel_rfl) (fun _ _ _ h => h) (Or.inl ⟨by kernel_rfl, ?_⟩) (by assumption) ?_
    rotate_left
    · (intro w hSw; (try dsimp only at hSw); go_simp; all_goals with_reducible rfl)
    try simp only [Act.put, List.setIfInBounds_toArray, List.set_cons_zero, List.set_cons_succ]
    refine wpAnyH_take (i := 15) (oi := ⟨some 8, _, _, _, _, _⟩) (v := ?_) rfl (by kernel_rfl) (by kernel_rfl) (by kernel_rfl) (fun _ _ _ h => h) (Or.inl ⟨by kernel_rfl, ?_⟩) (by assumption) ?_
    rotate_left
    · (intro w hSw; (try dsimp only at hSw); go_simp; all_goals with_reducible rfl)
    try simp only [Act.put, List.setIfInBounds_toArray, List.set_cons_zero, List.set_cons_succ]
    refine wpAnyH_done (by kernel_rfl) ?_ _
    go_wp2_with fail
    go_meet
    exact ⟨q3, qf, qc, rfl, rfl, HLL.out.1, HLL.out.2, hB3⟩
  case rest =>
  obtain ⟨q3, qf, qc, rfl, rfl, hql, hLL, hbc⟩ := hcut
  obtain ⟨w3, hw3⟩ : ∃ V, V = wc := ⟨_, rfl⟩
  rw [← hw3] at hbc hLL hql
  rw [← hw3]
  have HA3 := Lib.hid (SlLd.of hql hLL)
  clear hw3 hLL hql
  have zc := hbc.size
  have c0 := (hbc.cell (p := ⟨w.heap.size, 0, none⟩) bo0).trans b0
  have c1 := (hbc.cell (p := ⟨w.heap.size, 1, none⟩) bo0).trans b1
  have c2 := (hbc.cell (p := ⟨w.heap.size, 2, none⟩) bo0).trans b2
  have c3 := (hbc.cell (p := ⟨w.heap.size, 3, none⟩) bo0).trans b3
  have c4 := (hbc.cell (p := ⟨w.heap.size, 4, none⟩) bo0).trans b4
  have c5 := (hbc.cell (p := ⟨w.heap.size, 5, none⟩) bo0).trans b5
  have c6 := (hbc.cell (p := ⟨w.heap.size, 6, none⟩) bo0).trans b6
  have c7 := (hbc.cell (p := ⟨w.heap.size, 7, none⟩) bo0).trans b7
  have cB : Below w.heap.size w w3 := bB.trans (hbc.mono bB.size)
  have co0 : w.heap.size < w3.heap.size := by omega
  have cn0 : w3.heap.size ≠ w.heap.size := by omega
  clear hbc b0 b1 b2 b3 b4 b5 b6 b7 bB bo0 bn0
  go_upto_region 6 with (fail)
  go_cut [9, 10] from 20 (fun s7 s8 wx => ∃ q4 qg qd, s7 = .slice (some ⟨q4, qg, none⟩) T.length qd ∧ s8 = .int .i64 0 ∧ q4 < wx.heap.size ∧ LdAt wx q4 qg PB ∧ Below w3.heap.size w3 wx)
  case first =>
    have HS : ∀ w', Below w3.heap.size w3 w' → w'.cell? ⟨w.heap.size, 0, none⟩ = some (.slice A T.length cap) ∧ w'.cell? ⟨w.heap.size, 1, none⟩ = some (.slice B L.length cap') ∧ w'.cell? ⟨w.heap.size, 2, none⟩ = some (.int .i64 fr) ∧ w'.cell? ⟨w.heap.size, 3, none⟩ = some (.int .i64 tz) ∧ w'.cell? ⟨w.heap.size, 4, none⟩ = some (.int .i64 se) ∧ w'.cell? ⟨w.heap.size, 5, none⟩ = some (.int .i64 o) ∧ w'.cell? ⟨w.heap.size, 6, none⟩ = some (.int .i64 hh) := fun w' hb => ⟨(hb.cell (p := ⟨w.heap.size, 0, none⟩) co0).trans c0, (hb.cell (p := ⟨w.heap.size, 1, none⟩) co0).trans c1, (hb.cell (p := ⟨w.heap.size, 2, none⟩) co0).trans c2, (hb.cell (p := ⟨w.heap.size, 3, none⟩) co0).trans c3, (hb.cell (p := ⟨w.heap.size, 4, none⟩) co0).trans c4, (hb.cell (p := ⟨w.heap.size, 5, none⟩) co0).trans c5, (hb.cell (p := ⟨w.heap.size, 6, none⟩) co0).trans c6⟩
    have HS' := Lib.hid HS
    clear HS
    refine wp_region_held_drew (S := (fun w' => w'.cell? ⟨w.heap.size, 0, none⟩ = some (.slice A T.length cap) ∧ w'.cell? ⟨w.heap.size, 1, none⟩ = some (.slice B L.length cap') ∧ w'.cell? ⟨w.heap.size, 2, none⟩ = some (.int .i64 fr) ∧ w'.cell? ⟨w.heap.size, 3, none⟩ = some (.int .i64 tz) ∧ w'.cell? ⟨w.heap.size, 4, none⟩ = some (.int .i64 se) ∧ w'.cell? ⟨w.heap.size, 5, none⟩ = some (.int .i64 o) ∧ w'.cell? ⟨w.heap.size, 6, none⟩ = some (.int .i64 hh))) (by kernel_rfl) (by exact HS'.out _ (Below.refl w3.heap.size w3).drew) (fun hHeld => ?_)
    refine wpAnyH_take (i := 0) (oi := ⟨some 51, _, _, _, _, _⟩) (v := ?_) rfl (by kernel_rfl) (by kernel_rfl) (by kernel_rfl) (fun _ _ _ h => h) (Or.inl ⟨by kernel_rfl, ?_⟩) (by assumption) ?_
    rotate_left
    · (intro w hSw; (try dsimp only at hSw); go_simp; all_goals with_reducible rfl)
    try simp only [Act.put, List.setIfInBounds_toArray, List.set_cons_zero, List.set_cons_succ]
    refine wpAnyH_take (i := 1) (oi := ⟨some 52, _, _, _, _, _⟩) (v := ?_) rfl (by kernel_rfl) (by kernel_rfl) (by kernel_rfl) (fun _ _ _ h => h) (Or.inl ⟨by kernel_rfl, ?_⟩) (by assumption) ?_
    rotate_left
    · (intro w hSw; (try dsimp only at hSw); go_simp; all_goals with_reducible rfl)
    try simp only [Act.put, List.setIfInBounds_toArray, List.set_cons_zero, List.set_cons_succ]
    refine wpAnyH_take (i := 3) (oi := ⟨some 54, _, _, _, _, _⟩) (v := ?_) rfl (by kernel_rfl) (by kernel_rfl) (by kernel_rfl) (fun _ _ _ h => h) (Or.inl ⟨by kernel_rfl, ?_⟩) (by assumption) ?_
    rotate_left
    · (intro w hSw; (try dsimp only at hSw); go_simp; all_goals with_reducible rfl)
    try simp only [Act.put, List.setIfInBounds_toArray, List.set_cons_zero, List.set_cons_succ]
    refine wpAnyH_take (i := 4) (oi := ⟨some 55, _, _, _, _, _⟩) (v := ?_) rfl (by kernel_rfl) (by kernel_rfl) (by kernel_rfl) (fun _ _ _ h => h) (Or.inl ⟨by kernel_rfl, ?_⟩) (by assumption) ?_
    rotate_left
    · (intro w hSw; (try dsimp only at hSw); go_simp; all_goals with_reducible rfl)
    try simp only [Act.put, List.setIfInBounds_toArray, List.set_cons_zero, List.set_cons_succ]
    refine wpAnyH_take (i := 6) (oi := ⟨some 57, _, _, _, _, _⟩) (v := ?_) rfl (by kernel_rfl) (by kernel_rfl) (by kernel_rfl) (fun _ _ _ h => h) (Or.inl ⟨by kernel_rfl, ?_⟩) (by assumption) ?_
    rotate_left
    · (intro w hSw; (try dsimp only at hSw); go_simp; all_goals with_reducible rfl)
    try simp only [Act.put, List.setIfInBounds_toArray, List.set_cons_zero, List.set_cons_succ]
    refine wpAnyH_take (i := 7) (oi := ⟨some 58, _, _, _, _, _⟩) (v := ?_) rfl (by kernel_rfl) (by kernel_rfl) (by kernel_rfl) (fun _ _ _ h => h) (Or.inl ⟨by kernel_rfl, ?_⟩) (by assumption) ?_
    rotate_left
    · (intro w hSw; (try dsimp only at hSw); go_simp; all_goals with_reducible rfl)
    try simp only [Act.put, List.setIfInBounds_toArray, List.set_cons_zero, List.set_cons_succ]
    refine wpAnyH_take (i := 8) (oi := ⟨some 59, _, _, _, _, _⟩) (v := ?_) rfl (by kernel_rfl) (by kernel_rfl) (by kernel_rfl) (fun _ _ _ h => h) (Or.inl ⟨by kernel_rfl, ?_⟩) (by assumption) ?_
    rotate_left
    · (intro w hSw; (try dsimp only at hSw); go_simp; all_goals with_reducible rfl)
    try simp only [Act.put, List.setIfInBounds_toArray, List.set_cons_zero, List.set_cons_succ]
    have hB0 : Below w3.heap.size w3 w3.drew := (Below.refl w3.heap.size w3).drew
    generalize hdr : w3.drew = u0 at *
    clear hdr
    refine wpAnyH_ready (rs := [2]) (by kernel_rfl) (by simp) ?_
    refine AllReadyH.cons rfl (fun K hK => ?_) (AllReadyH.nil)
    go_simp
    refine (lawTable_any T A cap _ (by omega) HNA.out (HT.out.below (cB.trans ((hB0).mono cB.size)))).mono ?_
    rintro e u1 ⟨A2, cap2, rfl, hS, _, hb1⟩
    have HT1 := Lib.hid hS
    clear hS
    have hB1 : Below w3.heap.size w3 u1 := hB0.trans (hb1.mono hB0.size)
    go_wp2_with fail
    refine hK.out _ _ (HS'.out _ (hB1)) (fun hHeld => ?_)
    clear hK K
    try simp only [Act.put, List.setIfInBounds_toArray, List.set_cons_zero, List.set_cons_succ]
    refine wpAnyH_ready (rs := [5]) (by kernel_rfl) (by simp) ?_
    refine AllReadyH.cons rfl (fun K hK => ?_) (AllReadyH.nil)
    go_simp
    refine (lawLoads_any L B cap' _ (by omega) HNB.out (HL.out.below (cB.trans ((hB1).mono cB.size)))).mono ?_
    rintro e u2 ⟨A3, cap3, rfl, hS, _, hb2⟩
    have HL2 := Lib.hid hS
    clear hS
    have HT2 := Lib.hid (HT1.out.below hb2)
    have hB2 : Below w3.heap.size w3 u2 := hB1.trans (hb2.mono hB1.size)
    go_wp2_with fail
    refine hK.out _ _ (HS'.out _ (hB2)) (fun hHeld => ?_)
    clear hK K
    try simp only [Act.put, List.setIfInBounds_toArray, List.set_cons_zero, List.set_cons_succ]
    refine wpAnyH_ready (rs := [9]) (by kernel_rfl) (by simp) ?_
    refine AllReadyH.cons rfl (fun K hK => ?_) (AllReadyH.nil)
    go_simp
    refine (Loaded_n T L L.length A2 A3 cap2 cap3 fr tz se o hh m PB _ rfl hq hg hm6 hPB HT2.out HL2.out).mono ?_
    rintro e u3 ⟨q4, qg, qd, rfl, hq1, hq2, hLL, hb3⟩
    have HLL := Lib.hid (And.intro hq2 hLL)
    clear hLL hq1 hq2
    have hB3 : Below w3.heap.size w3 u3 := hB2.trans (hb3.mono hB2.size)
    go_wp2_with fail
    refine hK.out _ _ (HS'.out _ (hB3)) (fun hHeld => ?_)
    clear hK K
    try simp only [Act.put, List.setIfInBounds_toArray, List.set_cons_zero, List.set_cons_succ]
    refine wpAnyH_take (i := 10) (oi := ⟨some 50, _, _, _, _, _⟩) (v := ?_) rfl (by kernel_rfl) (by kernel_rfl) (by kernel_rfl) (fun _ _ _ h => h) (Or.inl ⟨by kernel_rfl, ?_⟩) (by assumption) ?_
    rotate_left
    · (intro w hSw; (try dsimp only at hSw); go_simp; all_goals with_reducible rfl)
    try simp only [Act.put, List.setIfInBounds_toArray, List.set_cons_zero, List.set_cons_succ]
    refine wpAnyH_take (i := 11) (oi := ⟨some 61, _, _, _, _, _⟩) (v := ?_) rfl (by kernel_rfl) (by kernel_rfl) (by kernel_rfl) (fun _ _ _ h => h) (Or.inl ⟨by kernel_rfl, ?_⟩) (by assumption) ?_
    rotate_left
    · (intro w hSw; (try dsimp only at hSw); go_simp; all_goals with_reducible rfl)
    try simp only [Act.put, List.setIfInBounds_toArray, List.set_cons_zero, List.set_cons_succ]
    refine wpAnyH_take (i := 12) (oi := ⟨some 62, _, _, _, _, _⟩) (v := ?_) rfl (by kernel_rfl) (by kernel_rfl) (by kernel_rfl) (fun _ _ _ h => h) (Or.inl ⟨by kernel_rfl, ?_⟩) (by assumption) ?_
    rotate_left
    · (intro w hSw; (try dsimp only at hSw); go_simp; all_goals with_reducible rfl)
    try simp only [Act.put, List.setIfInBounds_toArray, List.set_cons_zero, List.set_cons_succ]
    refine wpAnyH_take (i := 13) (oi := ⟨some 9, _, _, _, _, _⟩) (v := ?_) rfl (by kernel_rfl) (by kernel_rfl) (by kernel_rfl) (fun _ _ _ h => h) (Or.inl ⟨by kernel_rfl, ?_⟩) (by assumption) ?_
    rotate_left
    · (intro w hSw; (try dsimp only at hSw); go_simp; all_goals with_reducible rfl)
    try simp only [Act.put, List.setIfInBounds_toArray, List.set_cons_zero, List.set_cons_succ]
    refine wpAnyH_take (i := 14) (oi := ⟨some 10, _, _, _, _, _⟩) (v := ?_) rfl (by kernel_rfl) (by kernel_rfl) (by kernel_rfl) (fun _ _ _ h => h) (Or.inl ⟨by kernel_rfl, ?_⟩) (by assumption) ?_
    rotate_left
    · (intro w hSw; (try dsimp only at hSw); go_simp; all_goals with_reducible rfl)
    try simp only [Act.put, List.setIfInBounds_toArray, List.set_cons_zero, List.set_cons_succ]
    refine wpAnyH_done (by kernel_rfl) ?_ _
    go_wp2_with fail
    go_meet
    exact ⟨q4, qg, qd, rfl, rfl, HLL.out.1, HLL.out.2, hB3⟩
  case rest =>
  obtain ⟨q4, qg, qd, rfl, rfl, hql, hLL, hbc⟩ := hcut
  obtain ⟨w4, hw4⟩ : ∃ V, V = wc := ⟨_, rfl⟩
  rw [← hw4] at hbc hLL hql
  rw [← hw4]
  have HB4 := Lib.hid (SlLd.of hql hLL)
  have HA4 := Lib.hid (HA3.out.below hbc)
  clear hw4 hLL hql HA3
  have zd := hbc.size
  have d0 := (hbc.cell (p := ⟨w.heap.size, 0, none⟩) co0).trans c0
  have d1 := (hbc.cell (p := ⟨w.heap.size, 1, none⟩) co0).trans c1
  have d2 := (hbc.cell (p := ⟨w.heap.size, 2, none⟩) co0).trans c2
  have d3 := (hbc.cell (p := ⟨w.heap.size, 3, none⟩) co0).trans c3
  have d4 := (hbc.cell (p := ⟨w.heap.size, 4, none⟩) co0).trans c4
  have d5 := (hbc.cell (p := ⟨w.heap.size, 5, none⟩) co0).trans c5
  have d6 := (hbc.cell (p := ⟨w.heap.size, 6, none⟩) co0).trans c6
  have d7 := (hbc.cell (p := ⟨w.heap.size, 7, none⟩) co0).trans c7
  have dB : Below w.heap.size w w4 := cB.trans (hbc.mono cB.size)
  have do0 : w.heap.size < w4.heap.size := by omega
  have dn0 : w4.heap.size ≠ w.heap.size := by omega
  clear hbc c0 c1 c2 c3 c4 c5 c6 c7 cB co0 cn0
  go_wp2_with fail
  refine (meet_t PA PB T.length (some ⟨q3, qf, none⟩) (some ⟨q4, qg, none⟩) qc qd _ lA lB (by omega) mAB HA4.out HB4.out).mono ?_
  rintro e w5 ⟨rfl, hb5⟩
  have HA5 := Lib.hid (HA4.out.below hb5)
  have HB5 := Lib.hid (HB4.out.below hb5)
  clear HA4 HB4
  have ze := hb5.size
  try simp at ze
  have e0 : w5.cell? ⟨w.heap.size, 0, none⟩ = some (.slice A T.length cap) := (by rw [(bcell hb5).1 _ _ (by first | (simp; done) | (simp; omega) | omega)]; simp [go_sem, World.cell?_alloc_past, *])
  have e1 : w5.cell? ⟨w.heap.size, 1, none⟩ = some (.slice B L.length cap') := (by rw [(bcell hb5).1 _ _ (by first | (simp; done) | (simp; omega) | omega)]; simp [go_sem, World.cell?_alloc_past, *])
  have e2 : w5.cell? ⟨w.heap.size, 2, none⟩ = some (.int .i64 fr) := (by rw [(bcell hb5).1 _ _ (by first | (simp; done) | (simp; omega) | omega)]; simp [go_sem, World.cell?_alloc_past, *])
  have e3 : w5.cell? ⟨w.heap.size, 3, none⟩ = some (.int .i64 tz) := (by rw [(bcell hb5).1 _ _ (by first | (simp; done) | (simp; omega) | omega)]; simp [go_sem, World.cell?_alloc_past, *])
  have e4 : w5.cell? ⟨w.heap.size, 4, none⟩ = some (.int .i64 se) := (by rw [(bcell hb5).1 _ _ (by first | (simp; done) | (simp; omega) | omega)]; simp [go_sem, World.cell?_alloc_past, *])
  have e5 : w5.cell? ⟨w.heap.size, 5, none⟩ = some (.int .i64 o) := (by rw [(bcell hb5).1 _ _ (by first | (simp; done) | (simp; omega) | omega)]; simp [go_sem, World.cell?_alloc_past, *])
  have e6 : w5.cell? ⟨w.heap.size, 6, none⟩ = some (.int .i64 hh) := (by rw [(bcell hb5).1 _ _ (by first | (simp; done) | (simp; omega) | omega)]; simp [go_sem, World.cell?_alloc_past, *])
  have e7 : w5.cell? ⟨w.heap.size, 7, none⟩ = some (.int .i64 (n : Int)) := (by rw [(bcell hb5).1 _ _ (by first | (simp; done) | (simp; omega) | omega)]; simp [go_sem, World.cell?_alloc_past, *])
  have eB : Below w.heap.size w w5 := (by (repeat (first | (with_reducible refine Below.drew ?_) | (with_reducible refine below_drewN ?_ _) | (with_reducible refine Below.alloc ?_ (by first | omega | (simp; done) | (simp; omega) | (simp at *; omega)) _) | (with_reducible refine Below.setCell ?_ (by first | omega | (simp; done) | (simp; omega) | (simp at *; omega)) _) | (with_reducible exact Below.refl _ _) | (with_reducible assumption) | (with_reducible refine Below.trans ?_ (Below.mono (by assumption) (by first | omega | (simp; done) | (simp; omega) | (simp at *; omega)))))))
  have eo0 : w.heap.size < w5.heap.size := by omega
  have en0 : w5.heap.size ≠ w.heap.size := by omega
  clear hb5 d0 d1 d2 d3 d4 d5 d6 d7 dB do0 dn0
  obtain ⟨i0, hi, hz0, hz1, hz2⟩ := info_parts infoLd
  have HIf := Lib.hid hi
  have HZ0 := Lib.hid hz0
  have HZ1 := Lib.hid hz1
  have HZ2 := Lib.hid hz2
  clear hi hz0 hz1 hz2
  have HE := Lib.hid (And.intro e0 (And.intro e1 (And.intro e2 (And.intro e3 (And.intro e4 (And.intro e5 (And.intro e6 (And.intro e7 (And.intro eB (And.intro eo0 en0))))))))))
  go_wp2_with fail
  clear e0 e1 e2 e3 e4 e5 e6 e7 eB eo0 en0
  go_loopw [11, 12] (fun v i wr => ∃ k : Nat, k ≤ L.length ∧ i = .int .i64 k ∧ Hid (wr.ownsRow w5.heap.size 45 4 v k (lcs (owL L I k))) ∧ Below w5.heap.size w5 wr) (fun _ i _ => L.length - (intOf i).toNat)
  case atStart => exact ⟨0, by omega, rfl, World.ownsRow_nil _ _ _ _, Below.refl _ _⟩
  case round =>
    obtain ⟨k, hk, rfl, HO, hB⟩ := hrel
    have sz := hB.size
    have lw0 : w.heap.size < wr.heap.size := Nat.lt_of_lt_of_le HE.out.2.2.2.2.2.2.2.2.2.1 hB.size
    have c1 := (hB.cell (p := ⟨w.heap.size, 1, none⟩) HE.out.2.2.2.2.2.2.2.2.2.1).trans HE.out.2.1
    by_cases hkl : k < L.length
    · have hkl2 : (k : Int) < L.length := by omega
      obtain ⟨x, y, z, u, r1, r2, ex, ey, ez, eu, hxy, hzu, hr1, hr2, hr1b, hr2b, eow⟩ := HOW.out k hkl
      have BW : Below w.heap.size w wr := HE.out.2.2.2.2.2.2.2.2.1.trans (hB.mono HE.out.2.2.2.2.2.2.2.2.1.size)
      rcases (HL.out.below BW : SlLd wr B L) with hnil | ⟨pb, po, hBB, plt, PL⟩
      · rw [hnil] at hkl; simp at hkl
      subst hBB
      obtain ⟨d0, d1, d2, d3⟩ := PL k hkl
      rw [← getD_of hkl, ex] at d0
      rw [← getD_of hkl, ey] at d1
      rw [← getD_of hkl, ez] at d2
      rw [← getD_of hkl, eu] at d3
      have HM1 := Lib.hid hr1
      have HM2 := Lib.hid hr2
      have HEO := Lib.hid eow
      have HBW := Lib.hid BW
      clear PL ex ey ez eu hr1 hr2 eow BW
      go_upto_region 13 with (fail)
      go_cut [13, 14] from 75 to 139 (fun s13 s14 wx => ∃ b13 b14, s13 = .pointer (some ⟨b13, 0, none⟩) ∧ s14 = .pointer (some ⟨b14, 0, none⟩) ∧ (wr.heap.size ≤ b13 ∧ b13 < wx.heap.size ∧ wr.heap.size ≤ b14 ∧ b14 < wx.heap.size ∧ b13 ≠ b14) ∧ wx.cell? ⟨b13, 0, none⟩ = some (.int .i64 x) ∧ wx.cell? ⟨b13, 1, none⟩ = some (.int .i64 y) ∧ wx.cell? ⟨b14, 0, none⟩ = some (.int .i64 z) ∧ wx.cell? ⟨b14, 1, none⟩ = some (.int .i64 u) ∧ (∀ j, wx.frozen? ⟨b13, j, none⟩ = false) ∧ (∀ j, wx.frozen? ⟨b14, j, none⟩ = false) ∧ Below wr.heap.size wr wx)
      case first =>
        have HS : ∀ w', Below wr.heap.size wr w' → w'.cell? ⟨w.heap.size, 1, none⟩ = some (.slice (some ⟨pb, po, none⟩) L.length cap') ∧ w'.cell? ⟨pb, po + k * 4, none⟩ = some (.int .i64 x) ∧ w'.cell? ⟨pb, po + k * 4 + 1, none⟩ = some (.int .i64 y) ∧ w'.cell? ⟨pb, po + k * 4 + 2, none⟩ = some (.int .i64 z) ∧ w'.cell? ⟨pb, po + k * 4 + 3, none⟩ = some (.int .i64 u) := fun w' hb => ⟨(hb.cell (p := ⟨w.heap.size, 1, none⟩) lw0).trans c1, (hb.cell (p := ⟨pb, po + k * 4, none⟩) plt).trans d0, (hb.cell (p := ⟨pb, po + k * 4 + 1, none⟩) plt).trans d1, (hb.cell (p := ⟨pb, po + k * 4 + 2, none⟩) plt).trans d2, (hb.cell (p := ⟨pb, po + k * 4 + 3, none⟩) plt).trans d3⟩
        have HS' := Lib.hid HS
        clear HS
        refine wp_region_held_drew (S := (fun w' => w'.cell? ⟨w.heap.size, 1, none⟩ = some (.slice (some ⟨pb, po, none⟩) L.length cap') ∧ w'.cell? ⟨pb, po + k * 4, none⟩ = some (.int .i64 x) ∧ w'.cell? ⟨pb, po + k * 4 + 1, none⟩ = some (.int .i64 y) ∧ w'.cell? ⟨pb, po + k * 4 + 2, none⟩ = some (.int .i64 z) ∧ w'.cell? ⟨pb, po + k * 4 + 3, none⟩ = some (.int .i64 u))) (by kernel_rfl) (by exact HS'.out _ (Below.refl wr.heap.size wr).drew) (fun hHeld => ?_)
        have hB0 : Below wr.heap.size wr wr.drew := (Below.refl wr.heap.size wr).drew
        generalize hdr : wr.drew = u0 at *
        clear hdr
        refine wpAnyH_take (i := 0) (oi := ⟨some 82, _, _, _, _, _⟩) (v := ?_) rfl (by kernel_rfl) (by kernel_rfl) (by kernel_rfl) (fun _ _ _ h => h) (Or.inl ⟨by kernel_rfl, ?_⟩) (by assumption) ?_
        rotate_left
        · (intro w hSw; (try dsimp only at hSw); go_simp; all_goals with_reducible rfl)
        try simp only [Act.put, List.setIfInBounds_toArray, List.set_cons_zero, List.set_cons_succ]
        refine wpAnyH_take (i := 1) (oi := ⟨some 83, _, _, _, _, _⟩) (v := ?_) rfl (by kernel_rfl) (by kernel_rfl) (by kernel_rfl) (fun _ _ _ h => h) (Or.inl ⟨by kernel_rfl, ?_⟩) (by assumption) ?_
        rotate_left
        · (intro w hSw; (try dsimp only at hSw); go_simp; all_goals with_reducible rfl)
        try simp only [Act.put, List.setIfInBounds_toArray, List.set_cons_zero, List.set_cons_succ]
        refine wpAnyH_take (i := 2) (oi := ⟨some 84, _, _, _, _, _⟩) (v := ?_) rfl (by kernel_rfl) (by kernel_rfl) (by kernel_rfl) (fun _ _ _ h => h) (Or.inl ⟨by kernel_rfl, ?_⟩) (by assumption) ?_
        rotate_left
        · (intro w hSw; (try dsimp only at hSw); go_simp; all_goals with_reducible rfl)
        try simp only [Act.put, List.setIfInBounds_toArray, List.set_cons_zero, List.set_cons_succ]
        refine wpAnyH_take (i := 3) (oi := ⟨some 85, _, _, _, _, _⟩) (v := ?_) rfl (by kernel_rfl) (by kernel_rfl) (by kernel_rfl) (fun _ _ _ h => h) (Or.inl ⟨by kernel_rfl, ?_⟩) (by assumption) ?_
        rotate_left
        · (intro w hSw; (try dsimp only at hSw); go_simp; all_goals with_reducible rfl)
        try simp only [Act.put, List.setIfInBounds_toArray, List.set_cons_zero, List.set_cons_succ]
        refine wpAnyH_take (i := 4) (oi := ⟨some 86, _, _, _, _, _⟩) (v := ?_) rfl (by kernel_rfl) (by kernel_rfl) (by kernel_rfl) (fun _ _ _ h => h) (Or.inl ⟨by kernel_rfl, ?_⟩) (by assumption) ?_
        rotate_left
        · (intro w hSw; (try dsimp only at hSw); go_simp; all_goals with_reducible rfl)
        try simp only [Act.put, List.setIfInBounds_toArray, List.set_cons_zero, List.set_cons_succ]
        refine wpAnyH_take (i := 5) (oi := ⟨some 87, _, _, _, _, _⟩) (v := ?_) rfl (by kernel_rfl) (by kernel_rfl) (by kernel_rfl) (fun _ _ _ h => h) (Or.inl ⟨by kernel_rfl, ?_⟩) (by assumption) ?_
        rotate_left
        · (intro w hSw; (try dsimp only at hSw); go_simp; all_goals with_reducible rfl)
        try simp only [Act.put, List.setIfInBounds_toArray, List.set_cons_zero, List.set_cons_succ]
        refine wpAnyH_take (i := 6) (oi := ⟨some 88, _, _, _, _, _⟩) (v := ?_) rfl (by kernel_rfl) (by kernel_rfl) (by kernel_rfl) (fun _ _ _ h => h) (Or.inl ⟨by kernel_rfl, ?_⟩) (by assumption) ?_
        rotate_left
        · (intro w hSw; (try dsimp only at hSw); go_simp; all_goals with_reducible rfl)
        try simp only [Act.put, List.setIfInBounds_toArray, List.set_cons_zero, List.set_cons_succ]
        refine wpAnyH_take (i := 7) (oi := ⟨some 89, _, _, _, _, _⟩) (v := ?_) rfl (by kernel_rfl) (by kernel_rfl) (by kernel_rfl) (fun _ _ _ h => h) (Or.inl ⟨by kernel_rfl, ?_⟩) (by assumption) ?_
        rotate_left
        · (intro w hSw; (try dsimp only at hSw); go_simp; all_goals with_reducible rfl)
        try simp only [Act.put, List.setIfInBounds_toArray, List.set_cons_zero, List.set_cons_succ]
        refine wpAnyH_take (i := 8) (oi := ⟨some 90, _, _, _, _, _⟩) (v := ?_) rfl (by kernel_rfl) (by kernel_rfl) (by kernel_rfl) (fun _ _ _ h => h) (Or.inl ⟨by kernel_rfl, ?_⟩) (by assumption) ?_
        rotate_left
        · (intro w hSw; (try dsimp only at hSw); go_simp; all_goals with_reducible rfl)
        try simp only [Act.put, List.setIfInBounds_toArray, List.set_cons_zero, List.set_cons_succ]
        refine wpAnyH_take (i := 9) (oi := ⟨some 91, _, _, _, _, _⟩) (v := ?_) rfl (by kernel_rfl) (by kernel_rfl) (by kernel_rfl) (fun _ _ _ h => h) (Or.inl ⟨by kernel_rfl, ?_⟩) (by assumption) ?_
        rotate_left
        · (intro w hSw; (try dsimp only at hSw); go_simp; all_goals with_reducible rfl)
        try simp only [Act.put, List.setIfInBounds_toArray, List.set_cons_zero, List.set_cons_succ]
        refine wpAnyH_take (i := 10) (oi := ⟨some 92, _, _, _, _, _⟩) (v := ?_) rfl (by kernel_rfl) (by kernel_rfl) (by kernel_rfl) (fun _ _ _ h => h) (Or.inl ⟨by kernel_rfl, ?_⟩) (by assumption) ?_
        rotate_left
        · (intro w hSw; (try dsimp only at hSw); go_simp; all_goals with_reducible rfl)
        try simp only [Act.put, List.setIfInBounds_toArray, List.set_cons_zero, List.set_cons_succ]
        refine wpAnyH_take (i := 11) (oi := ⟨some 93, _, _, _, _, _⟩) (v := ?_) rfl (by kernel_rfl) (by kernel_rfl) (by kernel_rfl) (fun _ _ _ h => h) (Or.inl ⟨by kernel_rfl, ?_⟩) (by assumption) ?_
        rotate_left
        · (intro w hSw; (try dsimp only at hSw); go_simp; all_goals with_reducible rfl)
        try simp only [Act.put, List.setIfInBounds_toArray, List.set_cons_zero, List.set_cons_succ]
        refine wpAnyH_ready (rs := [12, 13]) (by kernel_rfl) (by simp) ?_
        refine AllReadyH.cons rfl (fun K hK => ?_) (AllReadyH.cons rfl (fun K hK => ?_) (AllReadyH.nil))
        · skip
          go_simp
          go_wp2_with fail
          refine hK.out _ _ (HS'.out _ ((hB0).alloc (hB0).size _)) (fun hHeld => ?_)
          clear hK K
          try simp only [Act.put, List.setIfInBounds_toArray, List.set_cons_zero, List.set_cons_succ]
          obtain ⟨b12, eb12⟩ : ∃ x, u0.heap.size = x := ⟨_, rfl⟩
          generalize hq1 : u0.alloc (.cells #[.int .i64 0, .int .i64 0] 24) = u1
          have hb1 : Below u0.heap.size u0 u1 := by rw [← hq1]; exact (Below.refl _ _).alloc (Nat.le_refl _) _
          have N12_1 : (∀ i, i < 2 → ∃ v, u1.cell? ⟨b12, i, none⟩ = some v) ∧ (∀ j, u1.frozen? ⟨b12, j, none⟩ = false) := by rw [← hq1, ← eb12]; exact new2_is u0 _ _ _
          have g12_1 : wr.heap.size ≤ b12 ∧ b12 < u1.heap.size := by rw [← hq1, ← eb12]; exact ⟨(hB0).size, by simp⟩
          have hB1 : Below wr.heap.size wr u1 := (hB0).trans (hb1.mono (hB0).size)
          rw [eb12]
          have z1 := hb1.size
          clear hq1
          refine wpAnyH_ready (rs := [13]) (by kernel_rfl) (by simp) ?_
          refine AllReadyH.cons rfl (fun K hK => ?_) (AllReadyH.nil)
          go_simp
          go_wp2_with fail
          refine hK.out _ _ (HS'.out _ ((hB1).alloc (hB1).size _)) (fun hHeld => ?_)
          clear hK K
          try simp only [Act.put, List.setIfInBounds_toArray, List.set_cons_zero, List.set_cons_succ]
          obtain ⟨b13, eb13⟩ : ∃ x, u1.heap.size = x := ⟨_, rfl⟩
          generalize hq2 : u1.alloc (.cells #[.int .i64 0, .int .i64 0] 24) = u2
          have hb2 : Below u1.heap.size u1 u2 := by rw [← hq2]; exact (Below.refl _ _).alloc (Nat.le_refl _) _
          have N13_2 : (∀ i, i < 2 → ∃ v, u2.cell? ⟨b13, i, none⟩ = some v) ∧ (∀ j, u2.frozen? ⟨b13, j, none⟩ = false) := by rw [← hq2, ← eb13]; exact new2_is u1 _ _ _
          have g13_2 : wr.heap.size ≤ b13 ∧ b13 < u2.heap.size := by rw [← hq2, ← eb13]; exact ⟨(hB1).size, by simp⟩
          have hB2 : Below wr.heap.size wr u2 := (hB1).trans (hb2.mono (hB1).size)
          rw [eb13]
          have z2 := hb2.size
          have g12_2 : wr.heap.size ≤ b12 ∧ b12 < u2.heap.size := ⟨g12_1.1, by have := g12_1.2; omega⟩
          have ne2 : b12 ≠ b13 := by have := g12_1.2; omega
          have N12_2 := has2_below (b := b12) N12_1 hb2 g12_1.2
          clear hq2
          refine wpAnyH_ready (rs := [14]) (by kernel_rfl) (by simp) ?_
          refine AllReadyH.cons rfl (fun K hK => ?_) (AllReadyH.nil)
          obtain ⟨⟨ev0, e0⟩, ⟨ev1, e1⟩⟩ := And.intro (N12_2.1 0 (by omega)) (N12_2.1 1 (by omega))
          have ef := N12_2.2
          have HH := set2_is (X := u2) (b := b12) (.int .i64 x) (.int .i64 y) N12_2.1 N12_2.2
          have HBs := set2_below (u0 := .int .i64 x) (u1 := .int .i64 y) (hB2) g12_2.1
          have HSz : (set2 u2 b12 (.int .i64 x) (.int .i64 y)).heap.size = u2.heap.size := by simp [set2, size_set]
          obtain ⟨u3, hq3⟩ : ∃ V, set2 u2 b12 (.int .i64 x) (.int .i64 y) = V := ⟨_, rfl⟩
          rw [hq3] at HH HBs HSz
          unfold set2 at hq3
          have HH2 := Lib.hid HH
          clear HH
          go_simp
          go_wp2_with fail
          try rw [hq3]
          refine hK.out _ _ (HS'.out _ HBs) (fun hHeld => ?_)
          clear hK K
          try simp only [Act.put, List.setIfInBounds_toArray, List.set_cons_zero, List.set_cons_succ]
          have hB3 : Below wr.heap.size wr u3 := HBs
          have g12_3 : wr.heap.size ≤ b12 ∧ b12 < u3.heap.size := ⟨g12_2.1, by have := g12_2.2; omega⟩
          have S12_3 : u3.cell? ⟨b12, 0, none⟩ = some (.int .i64 x) ∧ u3.cell? ⟨b12, 1, none⟩ = some (.int .i64 y) ∧ (∀ j, u3.frozen? ⟨b12, j, none⟩ = false) := ⟨HH2.out.1, HH2.out.2.1, HH2.out.2.2.1⟩
          have ne3 : b12 ≠ b13 := ne2
          have g13_3 : wr.heap.size ≤ b13 ∧ b13 < u3.heap.size := ⟨g13_2.1, by have := g13_2.2; omega⟩
          have hbl3 := HH2.out.2.2.2.2.1 b13 (by omega)
          have N13_3 : (∀ i, i < 2 → ∃ v, u3.cell? ⟨b13, i, none⟩ = some v) ∧ (∀ j, u3.frozen? ⟨b13, j, none⟩ = false) := ⟨fun i hi => by obtain ⟨v, hv⟩ := N13_2.1 i hi; exact ⟨v, (World.cell?_of_block (a := ⟨b13, i, none⟩) hbl3).trans hv⟩, fun j => (World.frozen?_of_block (a := ⟨b13, j, none⟩) hbl3).trans (N13_2.2 j)⟩
          clear e0 e1 ef ev0 ev1 HBs HSz
          refine wpAnyH_ready (rs := [15]) (by kernel_rfl) (by simp) ?_
          refine AllReadyH.cons rfl (fun K hK => ?_) (AllReadyH.nil)
          obtain ⟨⟨ev0, e0⟩, ⟨ev1, e1⟩⟩ := And.intro (N13_3.1 0 (by omega)) (N13_3.1 1 (by omega))
          have ef := N13_3.2
          have HH := set2_is (X := u3) (b := b13) (.int .i64 z) (.int .i64 u) N13_3.1 N13_3.2
          have HBs := set2_below (u0 := .int .i64 z) (u1 := .int .i64 u) (hB3) g13_3.1
          have HSz : (set2 u3 b13 (.int .i64 z) (.int .i64 u)).heap.size = u3.heap.size := by simp [set2, size_set]
          obtain ⟨u4, hq4⟩ : ∃ V, set2 u3 b13 (.int .i64 z) (.int .i64 u) = V := ⟨_, rfl⟩
          rw [hq4] at HH HBs HSz
          unfold set2 at hq4
          have HH2 := Lib.hid HH
          clear HH
          go_simp
          go_wp2_with fail
          try rw [hq4]
          refine hK.out _ _ (HS'.out _ HBs) (fun hHeld => ?_)
          clear hK K
          try simp only [Act.put, List.setIfInBounds_toArray, List.set_cons_zero, List.set_cons_succ]
          have hB4 : Below wr.heap.size wr u4 := HBs
          have g13_4 : wr.heap.size ≤ b13 ∧ b13 < u4.heap.size := ⟨g13_3.1, by have := g13_3.2; omega⟩
          have S13_4 : u4.cell? ⟨b13, 0, none⟩ = some (.int .i64 z) ∧ u4.cell? ⟨b13, 1, none⟩ = some (.int .i64 u) ∧ (∀ j, u4.frozen? ⟨b13, j, none⟩ = false) := ⟨HH2.out.1, HH2.out.2.1, HH2.out.2.2.1⟩
          have ne4 : b12 ≠ b13 := ne3
          have g12_4 : wr.heap.size ≤ b12 ∧ b12 < u4.heap.size := ⟨g12_3.1, by have := g12_3.2; omega⟩
          have hbl4 := HH2.out.2.2.2.2.1 b12 (by omega)
          have S12_4 : u4.cell? ⟨b12, 0, none⟩ = some (.int .i64 x) ∧ u4.cell? ⟨b12, 1, none⟩ = some (.int .i64 y) ∧ (∀ j, u4.frozen? ⟨b12, j, none⟩ = false) := ⟨(World.cell?_of_block (a := ⟨b12, 0, none⟩) hbl4).trans S12_3.1, (World.cell?_of_block (a := ⟨b12, 1, none⟩) hbl4).trans S12_3.2.1, fun j => (World.frozen?_of_block (a := ⟨b12, j, none⟩) hbl4).trans (S12_3.2.2 j)⟩
          clear e0 e1 ef ev0 ev1 HBs HSz
          refine wpAnyH_done (by kernel_rfl) ?_ _
          go_wp2_with fail
          go_meet
          exact ⟨b12, b13, rfl, rfl, ⟨g12_4.1, g12_4.2, g13_4.1, g13_4.2, by omega⟩, S12_4.1, S12_4.2.1, S13_4.1, S13_4.2.1, S12_4.2.2, S13_4.2.2, hB4⟩
        · skip
          go_simp
          go_wp2_with fail
          refine hK.out _ _ (HS'.out _ ((hB0).alloc (hB0).size _)) (fun hHeld => ?_)
          clear hK K
          try simp only [Act.put, List.setIfInBounds_toArray, List.set_cons_zero, List.set_cons_succ]
          obtain ⟨b13, eb13⟩ : ∃ x, u0.heap.size = x := ⟨_, rfl⟩
          generalize hq1 : u0.alloc (.cells #[.int .i64 0, .int .i64 0] 24) = u1
          have hb1 : Below u0.heap.size u0 u1 := by rw [← hq1]; exact (Below.refl _ _).alloc (Nat.le_refl _) _
          have N13_1 : (∀ i, i < 2 → ∃ v, u1.cell? ⟨b13, i, none⟩ = some v) ∧ (∀ j, u1.frozen? ⟨b13, j, none⟩ = false) := by rw [← hq1, ← eb13]; exact new2_is u0 _ _ _
          have g13_1 : wr.heap.size ≤ b13 ∧ b13 < u1.heap.size := by rw [← hq1, ← eb13]; exact ⟨(hB0).size, by simp⟩
          have hB1 : Below wr.heap.size wr u1 := (hB0).trans (hb1.mono (hB0).size)
          rw [eb13]
          have z1 := hb1.size
          clear hq1
          refine wpAnyH_ready (rs := [12]) (by kernel_rfl) (by simp) ?_
          refine AllReadyH.cons rfl (fun K hK => ?_) (AllReadyH.nil)
          go_simp
          go_wp2_with fail
          refine hK.out _ _ (HS'.out _ ((hB1).alloc (hB1).size _)) (fun hHeld => ?_)
          clear hK K
          try simp only [Act.put, List.setIfInBounds_toArray, List.set_cons_zero, List.set_cons_succ]
          obtain ⟨b12, eb12⟩ : ∃ x, u1.heap.size = x := ⟨_, rfl⟩
          generalize hq2 : u1.alloc (.cells #[.int .i64 0, .int .i64 0] 24) = u2
          have hb2 : Below u1.heap.size u1 u2 := by rw [← hq2]; exact (Below.refl _ _).alloc (Nat.le_refl _) _
          have N12_2 : (∀ i, i < 2 → ∃ v, u2.cell? ⟨b12, i, none⟩ = some v) ∧ (∀ j, u2.frozen? ⟨b12, j, none⟩ = false) := by rw [← hq2, ← eb12]; exact new2_is u1 _ _ _
          have g12_2 : wr.heap.size ≤ b12 ∧ b12 < u2.heap.size := by rw [← hq2, ← eb12]; exact ⟨(hB1).size, by simp⟩
          have hB2 : Below wr.heap.size wr u2 := (hB1).trans (hb2.mono (hB1).size)
          rw [eb12]
          have z2 := hb2.size
          have g13_2 : wr.heap.size ≤ b13 ∧ b13 < u2.heap.size := ⟨g13_1.1, by have := g13_1.2; omega⟩
          have ne2 : b12 ≠ b13 := by have := g13_1.2; omega
          have N13_2 := has2_below (b := b13) N13_1 hb2 g13_1.2
          clear hq2
          refine wpAnyH_ready (rs := [14]) (by kernel_rfl) (by simp) ?_
          refine AllReadyH.cons rfl (fun K hK => ?_) (AllReadyH.nil)
          obtain ⟨⟨ev0, e0⟩, ⟨ev1, e1⟩⟩ := And.intro (N12_2.1 0 (by omega)) (N12_2.1 1 (by omega))
          have ef := N12_2.2
          have HH := set2_is (X := u2) (b := b12) (.int .i64 x) (.int .i64 y) N12_2.1 N12_2.2
          have HBs := set2_below (u0 := .int .i64 x) (u1 := .int .i64 y) (hB2) g12_2.1
          have HSz : (set2 u2 b12 (.int .i64 x) (.int .i64 y)).heap.size = u2.heap.size := by simp [set2, size_set]
          obtain ⟨u3, hq3⟩ : ∃ V, set2 u2 b12 (.int .i64 x) (.int .i64 y) = V := ⟨_, rfl⟩
          rw [hq3] at HH HBs HSz
          unfold set2 at hq3
          have HH2 := Lib.hid HH
          clear HH
          go_simp
          go_wp2_with fail
          try rw [hq3]
          refine hK.out _ _ (HS'.out _ HBs) (fun hHeld => ?_)
          clear hK K
          try simp only [Act.put, List.setIfInBounds_toArray, List.set_cons_zero, List.set_cons_succ]
          have hB3 : Below wr.heap.size wr u3 := HBs
          have g12_3 : wr.heap.size ≤ b12 ∧ b12 < u3.heap.size := ⟨g12_2.1, by have := g12_2.2; omega⟩
          have S12_3 : u3.cell? ⟨b12, 0, none⟩ = some (.int .i64 x) ∧ u3.cell? ⟨b12, 1, none⟩ = some (.int .i64 y) ∧ (∀ j, u3.frozen? ⟨b12, j, none⟩ = false) := ⟨HH2.out.1, HH2.out.2.1, HH2.out.2.2.1⟩
          have ne3 : b12 ≠ b13 := ne2
          have g13_3 : wr.heap.size ≤ b13 ∧ b13 < u3.heap.size := ⟨g13_2.1, by have := g13_2.2; omega⟩
          have hbl3 := HH2.out.2.2.2.2.1 b13 (by omega)
          have N13_3 : (∀ i, i < 2 → ∃ v, u3.cell? ⟨b13, i, none⟩ = some v) ∧ (∀ j, u3.frozen? ⟨b13, j, none⟩ = false) := ⟨fun i hi => by obtain ⟨v, hv⟩ := N13_2.1 i hi; exact ⟨v, (World.cell?_of_block (a := ⟨b13, i, none⟩) hbl3).trans hv⟩, fun j => (World.frozen?_of_block (a := ⟨b13, j, none⟩) hbl3).trans (N13_2.2 j)⟩
          clear e0 e1 ef ev0 ev1 HBs HSz
          refine wpAnyH_ready (rs := [15]) (by kernel_rfl) (by simp) ?_
          refine AllReadyH.cons rfl (fun K hK => ?_) (AllReadyH.nil)
          obtain ⟨⟨ev0, e0⟩, ⟨ev1, e1⟩⟩ := And.intro (N13_3.1 0 (by omega)) (N13_3.1 1 (by omega))
          have ef := N13_3.2
          have HH := set2_is (X := u3) (b := b13) (.int .i64 z) (.int .i64 u) N13_3.1 N13_3.2
          have HBs := set2_below (u0 := .int .i64 z) (u1 := .int .i64 u) (hB3) g13_3.1
          have HSz : (set2 u3 b13 (.int .i64 z) (.int .i64 u)).heap.size = u3.heap.size := by simp [set2, size_set]
          obtain ⟨u4, hq4⟩ : ∃ V, set2 u3 b13 (.int .i64 z) (.int .i64 u) = V := ⟨_, rfl⟩
          rw [hq4] at HH HBs HSz
          unfold set2 at hq4
          have HH2 := Lib.hid HH
          clear HH
          go_simp
          go_wp2_with fail
          try rw [hq4]
          refine hK.out _ _ (HS'.out _ HBs) (fun hHeld => ?_)
          clear hK K
          try simp only [Act.put, List.setIfInBounds_toArray, List.set_cons_zero, List.set_cons_succ]
          have hB4 : Below wr.heap.size wr u4 := HBs
          have g13_4 : wr.heap.size ≤ b13 ∧ b13 < u4.heap.size := ⟨g13_3.1, by have := g13_3.2; omega⟩
          have S13_4 : u4.cell? ⟨b13, 0, none⟩ = some (.int .i64 z) ∧ u4.cell? ⟨b13, 1, none⟩ = some (.int .i64 u) ∧ (∀ j, u4.frozen? ⟨b13, j, none⟩ = false) := ⟨HH2.out.1, HH2.out.2.1, HH2.out.2.2.1⟩
          have ne4 : b12 ≠ b13 := ne3
          have g12_4 : wr.heap.size ≤ b12 ∧ b12 < u4.heap.size := ⟨g12_3.1, by have := g12_3.2; omega⟩
          have hbl4 := HH2.out.2.2.2.2.1 b12 (by omega)
          have S12_4 : u4.cell? ⟨b12, 0, none⟩ = some (.int .i64 x) ∧ u4.cell? ⟨b12, 1, none⟩ = some (.int .i64 y) ∧ (∀ j, u4.frozen? ⟨b12, j, none⟩ = false) := ⟨(World.cell?_of_block (a := ⟨b12, 0, none⟩) hbl4).trans S12_3.1, (World.cell?_of_block (a := ⟨b12, 1, none⟩) hbl4).trans S12_3.2.1, fun j => (World.frozen?_of_block (a := ⟨b12, j, none⟩) hbl4).trans (S12_3.2.2 j)⟩
          clear e0 e1 ef ev0 ev1 HBs HSz
          refine wpAnyH_done (by kernel_rfl) ?_ _
          go_wp2_with fail
          go_meet
          exact ⟨b12, b13, rfl, rfl, ⟨g12_4.1, g12_4.2, g13_4.1, g13_4.2, by omega⟩, S12_4.1, S12_4.2.1, S13_4.1, S13_4.2.1, S12_4.2.2, S13_4.2.2, hB4⟩
      case rest =>
      obtain ⟨b13, b14, rfl, rfl, ⟨h13a, h13b, h14a, h14b, hne⟩, f0, f1, f2, f3, fz1, fz2, hbc⟩ := hcut
      obtain ⟨w7, hw7⟩ : ∃ V, V = wc := ⟨_, rfl⟩
      rw [← hw7] at h13b h14b f0 f1 f2 f3 fz1 fz2 hbc
      rw [← hw7]
      have HIW : SlIn w7 C I := HI.out.below (HBW.out.trans (hbc.mono HBW.out.size))
      have HF7 := Lib.hid (And.intro f0 (And.intro f1 (And.intro f2 (And.intro f3 (And.intro fz1 (And.intro fz2 hbc))))))
      clear hw7 c1 d0 d1 d2 d3 f0 f1 f2 f3 fz1 fz2 hbc
      obtain ⟨p, hp⟩ : ∃ x, Hid (I.getD k 0 = x) := ⟨_, Lib.hid rfl⟩
      go_upto_if 97 with (fail)
      go_cut [15] from 75 to 139 (fun s15 wx => s15 = .int .i64 p ∧ w7 = wx)
      case first =>
        by_cases hkI : k < I.length
        · have hkI2 : (k : Int) < I.length := by omega
          rcases HIW with hnil | ⟨ib, io, hCC, ilt, IL⟩
          · rw [hnil] at hkI; simp at hkI
          subst hCC
          have ci := IL k hkI
          rw [← show I.getD k 0 = I[k] by simp [List.getD, hkI], hp.out] at ci
          clear IL
          go_wp2_with fail
          go_meet
          exact ⟨rfl, rfl⟩
        · have hkI2 : ¬ (k : Int) < I.length := by omega
          have hd : p = 0 := by rw [← hp.out]; simp [List.getD, hkI]
          clear hp
          subst hd
          go_wp2_with fail
          go_meet
          exact ⟨rfl, rfl⟩
      case rest =>
      obtain ⟨rfl, hw7⟩ := hcut
      subst hw7
      have HM1' : Hid (modI p (y - x + 1) = r1) := by show _ = _; rw [← hp.out]; exact HM1.out
      have HM2' : Hid (modI p (u - z + 1) = r2) := by show _ = _; rw [← hp.out]; exact HM2.out
      have xw1 : IntKind.i64.wrap (y - x) = y - x := IntWalk.i64_in _ (by omega)
      have xw2 : IntKind.i64.wrap (y - x + 1) = y - x + 1 := IntWalk.i64_in _ (by omega)
      have xw3 : IntKind.i64.wrap (x + r1) = x + r1 := IntWalk.i64_in _ (by omega)
      have zw1 : IntKind.i64.wrap (u - z) = u - z := IntWalk.i64_in _ (by omega)
      have zw2 : IntKind.i64.wrap (u - z + 1) = u - z + 1 := IntWalk.i64_in _ (by omega)
      have zw3 : IntKind.i64.wrap (z + r2) = z + r2 := IntWalk.i64_in _ (by omega)
      clear HIW HM1 HM2
      go_upto_region 17 with (fail)
      obtain ⟨f0, f1, f2, f3, fz1, fz2, hbc⟩ := HF7.out
      refine wp_region_Z (S := (fun w' => w'.cell? ⟨b13, 0, none⟩ = some (.int .i64 x) ∧ w'.cell? ⟨b13, 1, none⟩ = some (.int .i64 y))) 12 (by kernel_rfl) (by kernel_rfl) (by kernel_rfl) (by simp [go_sem, *]) (fun hHeld => ?_)
      refine wpAnyZ_take (i := 0) (oi := ⟨some 102, _, _, _, _, _⟩) (v := ?_) (by kernel_rfl) (by kernel_rfl) rfl rfl (by kernel_rfl) (by kernel_rfl) (by kernel_rfl) (fun _ _ _ h => h) (Or.inl ⟨by kernel_rfl, ?_⟩) (by assumption) ?_
      rotate_left
      · (intro w hSw; (try dsimp only at hSw); go_simp; all_goals with_reducible rfl)
      try simp only [Act.put, List.setIfInBounds_toArray, List.set_cons_zero, List.set_cons_succ]
      refine wpAnyZ_take (i := 1) (oi := ⟨some 103, _, _, _, _, _⟩) (v := ?_) (by kernel_rfl) (by kernel_rfl) rfl rfl (by kernel_rfl) (by kernel_rfl) (by kernel_rfl) (fun _ _ _ h => h) (Or.inl ⟨by kernel_rfl, ?_⟩) (by assumption) ?_
      rotate_left
      · (intro w hSw; (try dsimp only at hSw); go_simp; all_goals with_reducible rfl)
      try simp only [Act.put, List.setIfInBounds_toArray, List.set_cons_zero, List.set_cons_succ]
      refine wpAnyZ_take (i := 2) (oi := ⟨some 104, _, _, _, _, _⟩) (v := ?_) (by kernel_rfl) (by kernel_rfl) rfl rfl (by kernel_rfl) (by kernel_rfl) (by kernel_rfl) (fun _ _ _ h => h) (Or.inl ⟨by kernel_rfl, ?_⟩) (by assumption) ?_
      rotate_left
      · (intro w hSw; (try dsimp only at hSw); go_simp; all_goals with_reducible rfl)
      try simp only [Act.put, List.setIfInBounds_toArray, List.set_cons_zero, List.set_cons_succ]
      refine wpAnyZ_take (i := 3) (oi := ⟨some 105, _, _, _, _, _⟩) (v := ?_) (by kernel_rfl) (by kernel_rfl) rfl rfl (by kernel_rfl) (by kernel_rfl) (by kernel_rfl) (fun _ _ _ h => h) (Or.inl ⟨by kernel_rfl, ?_⟩) (by assumption) ?_
      rotate_left
      · (intro w hSw; (try dsimp only at hSw); go_simp; all_goals with_reducible rfl)
      try simp only [Act.put, List.setIfInBounds_toArray, List.set_cons_zero, List.set_cons_succ]
      refine wpAnyZ_take (i := 4) (oi := ⟨some 106, _, _, _, _, _⟩) (v := ?_) (by kernel_rfl) (by kernel_rfl) rfl rfl (by kernel_rfl) (by kernel_rfl) (by kernel_rfl) (fun _ _ _ h => h) (Or.inl ⟨by kernel_rfl, ?_⟩) (by assumption) ?_
      rotate_left
      · (intro w hSw; (try dsimp only at hSw); go_simp; all_goals with_reducible rfl)
      try simp only [Act.put, List.setIfInBounds_toArray, List.set_cons_zero, List.set_cons_succ]
      refine wpAnyZ_take (i := 5) (oi := ⟨some 107, _, _, _, _, _⟩) (v := ?_) (by kernel_rfl) (by kernel_rfl) rfl rfl (by kernel_rfl) (by kernel_rfl) (by kernel_rfl) (fun _ _ _ h => h) (Or.inl ⟨by kernel_rfl, ?_⟩) (by assumption) ?_
      rotate_left
      · (intro w hSw; (try dsimp only at hSw); go_simp; all_goals with_reducible rfl)
      try simp only [Act.put, List.setIfInBounds_toArray, List.set_cons_zero, List.set_cons_succ]
      refine wpAnyZ_take (i := 6) (oi := ⟨some 108, _, _, _, _, _⟩) (v := ?_) (by kernel_rfl) (by kernel_rfl) rfl rfl (by kernel_rfl) (by kernel_rfl) (by kernel_rfl) (fun _ _ _ h => h) (Or.inl ⟨by kernel_rfl, ?_⟩) (by assumption) ?_
      rotate_left
      · (intro w hSw; (try dsimp only at hSw); go_simp; all_goals with_reducible rfl)
      try simp only [Act.put, List.setIfInBounds_toArray, List.set_cons_zero, List.set_cons_succ]
      refine wpAnyZ_take (i := 7) (oi := ⟨some 109, _, _, _, _, _⟩) (v := ?_) (by kernel_rfl) (by kernel_rfl) rfl rfl (by kernel_rfl) (by kernel_rfl) (by kernel_rfl) (fun _ _ _ h => h) (Or.inl ⟨by kernel_rfl, ?_⟩) (by assumption) ?_
      rotate_left
      · (intro w hSw; (try dsimp only at hSw); go_simp; all_goals with_reducible rfl)
      try simp only [Act.put, List.setIfInBounds_toArray, List.set_cons_zero, List.set_cons_succ]
      refine wpAnyZ_take (i := 8) (oi := ⟨some 110, _, _, _, _, _⟩) (v := ?_) (by kernel_rfl) (by kernel_rfl) rfl rfl (by kernel_rfl) (by kernel_rfl) (by kernel_rfl) (fun _ _ _ h => h) (Or.inl ⟨by kernel_rfl, ?_⟩) (by assumption) ?_
      rotate_left
      · (intro w hSw; (try dsimp only at hSw); go_simp; all_goals with_reducible rfl)
      try simp only [Act.put, List.setIfInBounds_toArray, List.set_cons_zero, List.set_cons_succ]
      refine wpAnyZ_call (q := 9) (by kernel_rfl) rfl rfl (fun K hK => ?_)
      go_simp
      refine (Mod_is p (y - x + 1) r1 _ (by omega) (by omega) HM1').mono ?_
      rintro e v1 ⟨rfl, rfl⟩
      go_wp2_with fail
      refine hK.out _ _ (by simp [go_sem, *]) (fun hHeld => ?_)
      clear hK K
      try simp only [Act.put, List.setIfInBounds_toArray, List.set_cons_zero, List.set_cons_succ]
      refine wpAnyZ_take (i := 10) (oi := ⟨some 112, _, _, _, _, _⟩) (v := ?_) (by kernel_rfl) (by kernel_rfl) rfl rfl (by kernel_rfl) (by kernel_rfl) (by kernel_rfl) (fun _ _ _ h => h) (Or.inl ⟨by kernel_rfl, ?_⟩) (by assumption) ?_
      rotate_left
      · (intro w hSw; (try dsimp only at hSw); go_simp; all_goals with_reducible rfl)
      try simp only [Act.put, List.setIfInBounds_toArray, List.set_cons_zero, List.set_cons_succ]
      refine wpAnyZ_take (i := 11) (oi := ⟨some 113, _, _, _, _, _⟩) (v := ?_) (by kernel_rfl) (by kernel_rfl) rfl rfl (by kernel_rfl) (by kernel_rfl) (by kernel_rfl) (fun _ _ _ h => h) (Or.inl ⟨by kernel_rfl, ?_⟩) (by assumption) ?_
      rotate_left
      · (intro w hSw; (try dsimp only at hSw); go_simp; all_goals with_reducible rfl)
      try simp only [Act.put, List.setIfInBounds_toArray, List.set_cons_zero, List.set_cons_succ]
      refine wpAnyZ_last (by kernel_rfl) rfl (fun K hK => ?_)
      go_simp
      go_wp2_with fail
      refine hK.out _ _ ?_
      clear hK K
      try simp only [Act.put, List.setIfInBounds_toArray, List.set_cons_zero, List.set_cons_succ]
      generalize hw8 : (w7.setCell ⟨b13, 0, none⟩ (.int .i64 (x + r1))).drew = w8
      have hB8 : Below wr.heap.size wr w8 := by rw [← hw8]; exact (hbc.setCell (p := ⟨b13, 0, none⟩) h13a _).drew
      have j0 : w8.cell? ⟨b13, 0, none⟩ = some (.int .i64 (x + r1)) := by rw [← hw8]; exact cell_same (w := w7) f0
      have j2 : w8.cell? ⟨b14, 0, none⟩ = some (.int .i64 z) := by rw [← hw8]; exact (cell_off (Or.inl (by omega))).trans f2
      have j3 : w8.cell? ⟨b14, 1, none⟩ = some (.int .i64 u) := by rw [← hw8]; exact (cell_off (Or.inl (by omega))).trans f3
      have jf : ∀ j, w8.frozen? ⟨b14, j, none⟩ = false := fun j => by rw [← hw8]; show (w7.setCell _ _).frozen? _ = _; rw [World.frozen?_setCell]; exact fz2 j
      clear hw8 f0 f1 f2 f3 fz1 fz2 hbc HF7
      go_upto_region 18 with (fail)
      refine wp_region_Z (S := (fun w' => w'.cell? ⟨b14, 0, none⟩ = some (.int .i64 z) ∧ w'.cell? ⟨b14, 1, none⟩ = some (.int .i64 u))) 12 (by kernel_rfl) (by kernel_rfl) (by kernel_rfl) (by simp [go_sem, *]) (fun hHeld => ?_)
      refine wpAnyZ_take (i := 0) (oi := ⟨some 114, _, _, _, _, _⟩) (v := ?_) (by kernel_rfl) (by kernel_rfl) rfl rfl (by kernel_rfl) (by kernel_rfl) (by kernel_rfl) (fun _ _ _ h => h) (Or.inl ⟨by kernel_rfl, ?_⟩) (by assumption) ?_
      rotate_left
      · (intro w hSw; (try dsimp only at hSw); go_simp; all_goals with_reducible rfl)
      try simp only [Act.put, List.setIfInBounds_toArray, List.set_cons_zero, List.set_cons_succ]
      refine wpAnyZ_take (i := 1) (oi := ⟨some 115, _, _, _, _, _⟩) (v := ?_) (by kernel_rfl) (by kernel_rfl) rfl rfl (by kernel_rfl) (by kernel_rfl) (by kernel_rfl) (fun _ _ _ h => h) (Or.inl ⟨by kernel_rfl, ?_⟩) (by assumption) ?_
      rotate_left
      · (intro w hSw; (try dsimp only at hSw); go_simp; all_goals with_reducible rfl)
      try simp only [Act.put, List.setIfInBounds_toArray, List.set_cons_zero, List.set_cons_succ]
      refine wpAnyZ_take (i := 2) (oi := ⟨some 116, _, _, _, _, _⟩) (v := ?_) (by kernel_rfl) (by kernel_rfl) rfl rfl (by kernel_rfl) (by kernel_rfl) (by kernel_rfl) (fun _ _ _ h => h) (Or.inl ⟨by kernel_rfl, ?_⟩) (by assumption) ?_
      rotate_left
      · (intro w hSw; (try dsimp only at hSw); go_simp; all_goals with_reducible rfl)
      try simp only [Act.put, List.setIfInBounds_toArray, List.set_cons_zero, List.set_cons_succ]
      refine wpAnyZ_take (i := 3) (oi := ⟨some 117, _, _, _, _, _⟩) (v := ?_) (by kernel_rfl) (by kernel_rfl) rfl rfl (by kernel_rfl) (by kernel_rfl) (by kernel_rfl) (fun _ _ _ h => h) (Or.inl ⟨by kernel_rfl, ?_⟩) (by assumption) ?_
      rotate_left
      · (intro w hSw; (try dsimp only at hSw); go_simp; all_goals with_reducible rfl)
      try simp only [Act.put, List.setIfInBounds_toArray, List.set_cons_zero, List.set_cons_succ]
      refine wpAnyZ_take (i := 4) (oi := ⟨some 118, _, _, _, _, _⟩) (v := ?_) (by kernel_rfl) (by kernel_rfl) rfl rfl (by kernel_rfl) (by kernel_rfl) (by kernel_rfl) (fun _ _ _ h => h) (Or.inl ⟨by kernel_rfl, ?_⟩) (by assumption) ?_
      rotate_left
      · (intro w hSw; (try dsimp only at hSw); go_simp; all_goals with_reducible rfl)
      try simp only [Act.put, List.setIfInBounds_toArray, List.set_cons_zero, List.set_cons_succ]
      refine wpAnyZ_take (i := 5) (oi := ⟨some 119, _, _, _, _, _⟩) (v := ?_) (by kernel_rfl) (by kernel_rfl) rfl rfl (by kernel_rfl) (by kernel_rfl) (by kernel_rfl) (fun _ _ _ h => h) (Or.inl ⟨by kernel_rfl, ?_⟩) (by assumption) ?_
      rotate_left
      · (intro w hSw; (try dsimp only at hSw); go_simp; all_goals with_reducible rfl)
      try simp only [Act.put, List.setIfInBounds_toArray, List.set_cons_zero, List.set_cons_succ]
      refine wpAnyZ_take (i := 6) (oi := ⟨some 120, _, _, _, _, _⟩) (v := ?_) (by kernel_rfl) (by kernel_rfl) rfl rfl (by kernel_rfl) (by kernel_rfl) (by kernel_rfl) (fun _ _ _ h => h) (Or.inl ⟨by kernel_rfl, ?_⟩) (by assumption) ?_
      rotate_left
      · (intro w hSw; (try dsimp only at hSw); go_simp; all_goals with_reducible rfl)
      try simp only [Act.put, List.setIfInBounds_toArray, List.set_cons_zero, List.set_cons_succ]
      refine wpAnyZ_take (i := 7) (oi := ⟨some 121, _, _, _, _, _⟩) (v := ?_) (by kernel_rfl) (by kernel_rfl) rfl rfl (by kernel_rfl) (by kernel_rfl) (by kernel_rfl) (fun _ _ _ h => h) (Or.inl ⟨by kernel_rfl, ?_⟩) (by assumption) ?_
      rotate_left
      · (intro w hSw; (try dsimp only at hSw); go_simp; all_goals with_reducible rfl)
      try simp only [Act.put, List.setIfInBounds_toArray, List.set_cons_zero, List.set_cons_succ]
      refine wpAnyZ_take (i := 8) (oi := ⟨some 122, _, _, _, _, _⟩) (v := ?_) (by kernel_rfl) (by kernel_rfl) rfl rfl (by kernel_rfl) (by kernel_rfl) (by kernel_rfl) (fun _ _ _ h => h) (Or.inl ⟨by kernel_rfl, ?_⟩) (by assumption) ?_
      rotate_left
      · (intro w hSw; (try dsimp only at hSw); go_simp; all_goals with_reducible rfl)
      try simp only [Act.put, List.setIfInBounds_toArray, List.set_cons_zero, List.set_cons_succ]
      refine wpAnyZ_call (q := 9) (by kernel_rfl) rfl rfl (fun K hK => ?_)
      go_simp
      refine (Mod_is p (u - z + 1) r2 _ (by omega) (by omega) HM2').mono ?_
      rintro e v1 ⟨rfl, rfl⟩
      go_wp2_with fail
      refine hK.out _ _ (by simp [go_sem, *]) (fun hHeld => ?_)
      clear hK K
      try simp only [Act.put, List.setIfInBounds_toArray, List.set_cons_zero, List.set_cons_succ]
      refine wpAnyZ_take (i := 10) (oi := ⟨some 124, _, _, _, _, _⟩) (v := ?_) (by kernel_rfl) (by kernel_rfl) rfl rfl (by kernel_rfl) (by kernel_rfl) (by kernel_rfl) (fun _ _ _ h => h) (Or.inl ⟨by kernel_rfl, ?_⟩) (by assumption) ?_
      rotate_left
      · (intro w hSw; (try dsimp only at hSw); go_simp; all_goals with_reducible rfl)
      try simp only [Act.put, List.setIfInBounds_toArray, List.set_cons_zero, List.set_cons_succ]
      refine wpAnyZ_take (i := 11) (oi := ⟨some 125, _, _, _, _, _⟩) (v := ?_) (by kernel_rfl) (by kernel_rfl) rfl rfl (by kernel_rfl) (by kernel_rfl) (by kernel_rfl) (fun _ _ _ h => h) (Or.inl ⟨by kernel_rfl, ?_⟩) (by assumption) ?_
      rotate_left
      · (intro w hSw; (try dsimp only at hSw); go_simp; all_goals with_reducible rfl)
      try simp only [Act.put, List.setIfInBounds_toArray, List.set_cons_zero, List.set_cons_succ]
      refine wpAnyZ_last (by kernel_rfl) rfl (fun K hK => ?_)
      go_simp
      go_wp2_with fail
      refine hK.out _ _ ?_
      clear hK K
      try simp only [Act.put, List.setIfInBounds_toArray, List.set_cons_zero, List.set_cons_succ]
      generalize hw9 : (w8.setCell ⟨b14, 0, none⟩ (.int .i64 (z + r2))).drew = w9
      have hB9 : Below wr.heap.size wr w9 := by rw [← hw9]; exact (hB8.setCell (p := ⟨b14, 0, none⟩) h14a _).drew
      have l0 : w9.cell? ⟨b13, 0, none⟩ = some (.int .i64 (x + r1)) := by rw [← hw9]; exact (cell_off (Or.inl (by omega))).trans j0
      have l1 : w9.cell? ⟨b14, 0, none⟩ = some (.int .i64 (z + r2)) := by rw [← hw9]; exact cell_same (w := w8) j2
      have HO9 : Hid (w9.ownsRow w5.heap.size 45 4 _ k (lcs (owL L I k))) := own_below HO.out hB9 (Nat.le_refl _)
      have HN : Hid (lcs (owL L I (k + 1)) = lcs (owL L I k) ++ [.int .i64 (x + r1), .int .i64 (x + r1), .int .i64 (z + r2), .int .i64 (z + r2)]) := by
        show _ = _
        unfold owL
        rw [lcs_mapq, HEO.out]
      have hB59 : Below w5.heap.size w5 w9 := hB.trans (hB9.mono sz)
      have sz9 : w5.heap.size ≤ w9.heap.size := hB59.size
      clear hw9 j0 j2 j3 jf hB8 hB9 HO
      go_wp2_with (at_builtin; refine wpList_append_own_at _ rfl _ _ 36 rfl w5.heap.size 45 i0 (.agg #[.int .i64 0, .int .i64 0, .int .i64 0, .int .i64 0]) 4 32 Try.underlying36 HIf.out HZ0.out HZ1.out HZ2.out rfl (by decide) _ _ _ rfl (HO9.out.alloc _) ⟨w9.heap.size, 0, none⟩ 1 1 [.int .i64 (x + r1), .int .i64 (x + r1), .int .i64 (z + r2), .int .i64 (z + r2)] rfl rfl ?c0 ?c1 ?c2 ?c3 ?c4 ?_)
      case c0 =>
        intro j u hj
        match j, hj with
        | 0, hj => simp at hj; subst hj; simp [Addr.add, go_sem]
        | 1, hj => simp at hj; subst hj; simp [Addr.add, go_sem]
        | 2, hj => simp at hj; subst hj; simp [Addr.add, go_sem]
        | 3, hj => simp at hj; subst hj; simp [Addr.add, go_sem]
      case c1 => intro u hu; simp at hu; rcases hu with rfl | rfl | rfl | rfl <;> rfl
      case c2 => unfold maxLen; omega
      case c3 => omega
      case c4 => simp; omega
      intro v' wa hown hgrow hnn hblk
      have hBa : Below w5.heap.size w5 wa := hB59.trans (((Below.refl w5.heap.size w9).alloc (by omega) _).grown hgrow (by simp; omega) (own_block1 HO9.out))
      have HOW2 : Hid (wa.ownsRow w5.heap.size 45 4 v' (k + 1) (lcs (owL L I (k + 1)))) := by
        show World.ownsRow _ _ _ _ _ _ _
        rw [HN.out]
        exact hown
      clear hown hgrow hnn hblk HO9 hB59
      go_wp2
      go_roundw
      case rel => exact ⟨k + 1, by omega, by go_num, HOW2, hBa⟩
      case measure => (simp [intOf]) <;> omega
    · have hkl2 : ¬ (k : Int) < L.length := by omega
      have HKK := Lib.hid (show k = L.length by omega)
      have hlen : (owL L I k).length = k := by simp [owL]
      have HS := SlLd_own (P := owL L I k) (by rw [hlen]; exact HO.out)
      obtain ⟨A', cap2, rfl, hS, _⟩ := HS
      rw [hlen]
      have HSS : Hid (SlLd wr A' PO) := by
        show SlLd _ _ _
        rw [← hPO.out, ← HKK.out]; exact hS
      have HA6 := Lib.hid (HA5.out.below hB)
      have HB6 := Lib.hid (HB5.out.below hB)
      have e0 := (hB.cell (p := ⟨w.heap.size, 0, none⟩) HE.out.2.2.2.2.2.2.2.2.2.1).trans HE.out.1
      have e2 := (hB.cell (p := ⟨w.heap.size, 2, none⟩) HE.out.2.2.2.2.2.2.2.2.2.1).trans HE.out.2.2.1
      have e3 := (hB.cell (p := ⟨w.heap.size, 3, none⟩) HE.out.2.2.2.2.2.2.2.2.2.1).trans HE.out.2.2.2.1
      have e4 := (hB.cell (p := ⟨w.heap.size, 4, none⟩) HE.out.2.2.2.2.2.2.2.2.2.1).trans HE.out.2.2.2.2.1
      have e5 := (hB.cell (p := ⟨w.heap.size, 5, none⟩) HE.out.2.2.2.2.2.2.2.2.2.1).trans HE.out.2.2.2.2.2.1
      have e6 := (hB.cell (p := ⟨w.heap.size, 6, none⟩) HE.out.2.2.2.2.2.2.2.2.2.1).trans HE.out.2.2.2.2.2.2.1
      have e7 := (hB.cell (p := ⟨w.heap.size, 7, none⟩) HE.out.2.2.2.2.2.2.2.2.2.1).trans HE.out.2.2.2.2.2.2.2.1
      have e1 := c1
      have eB : Below w.heap.size w wr := HE.out.2.2.2.2.2.2.2.2.1.trans (hB.mono HE.out.2.2.2.2.2.2.2.2.1.size)
      have eo0 := lw0
      have en0 : wr.heap.size ≠ w.heap.size := by omega
      obtain ⟨kk, hkk⟩ : ∃ x, Hid (k = x) := ⟨_, Lib.hid rfl⟩
      have hke : Hid (kk = L.length) := Lib.hid (by rw [← hkk.out]; exact HKK.out)
      have hki : kk ≤ 16 := by rw [hke.out]; exact hll
      rw [hkk.out] at hkl2 ⊢
      clear HO hS hlen c1 lw0 hB hkl hk HA5 HB5
      clear HE
      go_upto_region 20 with (fail)
      have HS : ∀ w', Below wr.heap.size wr w' → w'.cell? ⟨w.heap.size, 0, none⟩ = some (.slice A T.length cap) ∧ w'.cell? ⟨w.heap.size, 2, none⟩ = some (.int .i64 fr) ∧ w'.cell? ⟨w.heap.size, 3, none⟩ = some (.int .i64 tz) ∧ w'.cell? ⟨w.heap.size, 4, none⟩ = some (.int .i64 se) ∧ w'.cell? ⟨w.heap.size, 5, none⟩ = some (.int .i64 o) ∧ w'.cell? ⟨w.heap.size, 6, none⟩ = some (.int .i64 hh) ∧ w'.cell? ⟨w.heap.size, 7, none⟩ = some (.int .i64 (n : Int)) := fun w' hb => ⟨(hb.cell (p := ⟨w.heap.size, 0, none⟩) eo0).trans e0, (hb.cell (p := ⟨w.heap.size, 2, none⟩) eo0).trans e2, (hb.cell (p := ⟨w.heap.size, 3, none⟩) eo0).trans e3, (hb.cell (p := ⟨w.heap.size, 4, none⟩) eo0).trans e4, (hb.cell (p := ⟨w.heap.size, 5, none⟩) eo0).trans e5, (hb.cell (p := ⟨w.heap.size, 6, none⟩) eo0).trans e6, (hb.cell (p := ⟨w.heap.size, 7, none⟩) eo0).trans e7⟩
      have HS' := Lib.hid HS
      clear HS
      refine wp_region_held_drew (S := (fun w' => w'.cell? ⟨w.heap.size, 0, none⟩ = some (.slice A T.length cap) ∧ w'.cell? ⟨w.heap.size, 2, none⟩ = some (.int .i64 fr) ∧ w'.cell? ⟨w.heap.size, 3, none⟩ = some (.int .i64 tz) ∧ w'.cell? ⟨w.heap.size, 4, none⟩ = some (.int .i64 se) ∧ w'.cell? ⟨w.heap.size, 5, none⟩ = some (.int .i64 o) ∧ w'.cell? ⟨w.heap.size, 6, none⟩ = some (.int .i64 hh) ∧ w'.cell? ⟨w.heap.size, 7, none⟩ = some (.int .i64 (n : Int)))) (by kernel_rfl) (by exact HS'.out _ (Below.refl wr.heap.size wr).drew) (fun hHeld => ?_)
      refine wpAnyH_take (i := 0) (oi := ⟨some 141, _, _, _, _, _⟩) (v := ?_) rfl (by kernel_rfl) (by kernel_rfl) (by kernel_rfl) (fun _ _ _ h => h) (Or.inl ⟨by kernel_rfl, ?_⟩) (by assumption) ?_
      rotate_left
      · (intro w hSw; (try dsimp only at hSw); go_simp; all_goals with_reducible rfl)
      try simp only [Act.put, List.setIfInBounds_toArray, List.set_cons_zero, List.set_cons_succ]
      refine wpAnyH_take (i := 1) (oi := ⟨some 142, _, _, _, _, _⟩) (v := ?_) rfl (by kernel_rfl) (by kernel_rfl) (by kernel_rfl) (fun _ _ _ h => h) (Or.inl ⟨by kernel_rfl, ?_⟩) (by assumption) ?_
      rotate_left
      · (intro w hSw; (try dsimp only at hSw); go_simp; all_goals with_reducible rfl)
      try simp only [Act.put, List.setIfInBounds_toArray, List.set_cons_zero, List.set_cons_succ]
      refine wpAnyH_take (i := 3) (oi := ⟨some 144, _, _, _, _, _⟩) (v := ?_) rfl (by kernel_rfl) (by kernel_rfl) (by kernel_rfl) (fun _ _ _ h => h) (Or.inl ⟨by kernel_rfl, ?_⟩) (by assumption) ?_
      rotate_left
      · (intro w hSw; (try dsimp only at hSw); go_simp; all_goals with_reducible rfl)
      try simp only [Act.put, List.setIfInBounds_toArray, List.set_cons_zero, List.set_cons_succ]
      refine wpAnyH_take (i := 4) (oi := ⟨some 145, _, _, _, _, _⟩) (v := ?_) rfl (by kernel_rfl) (by kernel_rfl) (by kernel_rfl) (fun _ _ _ h => h) (Or.inl ⟨by kernel_rfl, ?_⟩) (by assumption) ?_
      rotate_left
      · (intro w hSw; (try dsimp only at hSw); go_simp; all_goals with_reducible rfl)
      try simp only [Act.put, List.setIfInBounds_toArray, List.set_cons_zero, List.set_cons_succ]
      refine wpAnyH_take (i := 5) (oi := ⟨some 146, _, _, _, _, _⟩) (v := ?_) rfl (by kernel_rfl) (by kernel_rfl) (by kernel_rfl) (fun _ _ _ h => h) (Or.inl ⟨by kernel_rfl, ?_⟩) (by assumption) ?_
      rotate_left
      · (intro w hSw; (try dsimp only at hSw); go_simp; all_goals with_reducible rfl)
      try simp only [Act.put, List.setIfInBounds_toArray, List.set_cons_zero, List.set_cons_succ]
      refine wpAnyH_take (i := 6) (oi := ⟨some 147, _, _, _, _, _⟩) (v := ?_) rfl (by kernel_rfl) (by kernel_rfl) (by kernel_rfl) (fun _ _ _ h => h) (Or.inl ⟨by kernel_rfl, ?_⟩) (by assumption) ?_
      rotate_left
      · (intro w hSw; (try dsimp only at hSw); go_simp; all_goals with_reducible rfl)
      try simp only [Act.put, List.setIfInBounds_toArray, List.set_cons_zero, List.set_cons_succ]
      refine wpAnyH_take (i := 7) (oi := ⟨some 148, _, _, _, _, _⟩) (v := ?_) rfl (by kernel_rfl) (by kernel_rfl) (by kernel_rfl) (fun _ _ _ h => h) (Or.inl ⟨by kernel_rfl, ?_⟩) (by assumption) ?_
      rotate_left
      · (intro w hSw; (try dsimp only at hSw); go_simp; all_goals with_reducible rfl)
      try simp only [Act.put, List.setIfInBounds_toArray, List.set_cons_zero, List.set_cons_succ]
      have hB0 : Below wr.heap.size wr wr.drew := (Below.refl wr.heap.size wr).drew
      generalize hdr : wr.drew = u0 at *
      clear hdr
      refine wpAnyH_ready (rs := [2]) (by kernel_rfl) (by simp) ?_
      refine AllReadyH.cons rfl (fun K hK => ?_) (AllReadyH.nil)
      go_simp
      refine (lawTable_any T A cap _ (by omega) HNA.out (HT.out.below (eB.trans (hB0.mono eB.size)))).mono ?_
      rintro e u1 ⟨A2, cap3, rfl, hS, _, hb1⟩
      have HT1 := Lib.hid hS
      clear hS
      have hB1 : Below wr.heap.size wr u1 := hB0.trans (hb1.mono hB0.size)
      go_wp2_with fail
      refine hK.out _ _ (HS'.out _ hB1) (fun hHeld => ?_)
      clear hK K
      try simp only [Act.put, List.setIfInBounds_toArray, List.set_cons_zero, List.set_cons_succ]
      refine wpAnyH_ready (rs := [8]) (by kernel_rfl) (by simp) ?_
      refine AllReadyH.cons rfl (fun K hK => ?_) (AllReadyH.nil)
      go_simp
      refine (Loaded_n T PO kk A2 A' cap3 cap2 fr tz se o hh n PC _ (lO.out.trans hke.out.symm) fO hg hn6 hPC HT1.out (HSS.out.below hB1)).mono ?_
      rintro e u2 ⟨q6, qh, qe, rfl, hq1, hq2, hLL, hb2⟩
      have HC2 := Lib.hid (SlLd.of hq2 hLL)
      have hB2 : Below wr.heap.size wr u2 := hB1.trans (hb2.mono hB1.size)
      clear hLL hq1 hq2
      go_wp2_with fail
      refine hK.out _ _ (HS'.out _ hB2) (fun hHeld => ?_)
      clear hK K
      try simp only [Act.put, List.setIfInBounds_toArray, List.set_cons_zero, List.set_cons_succ]
      refine wpAnyH_take (i := 9) (oi := ⟨some 140, _, _, _, _, _⟩) (v := ?_) rfl (by kernel_rfl) (by kernel_rfl) (by kernel_rfl) (fun _ _ _ h => h) (Or.inl ⟨by kernel_rfl, ?_⟩) (by assumption) ?_
      rotate_left
      · (intro w hSw; (try dsimp only at hSw); go_simp; all_goals with_reducible rfl)
      try simp only [Act.put, List.setIfInBounds_toArray, List.set_cons_zero, List.set_cons_succ]
      refine wpAnyH_take (i := 10) (oi := ⟨some 150, _, _, _, _, _⟩) (v := ?_) rfl (by kernel_rfl) (by kernel_rfl) (by kernel_rfl) (fun _ _ _ h => h) (Or.inl ⟨by kernel_rfl, ?_⟩) (by assumption) ?_
      rotate_left
      · (intro w hSw; (try dsimp only at hSw); go_simp; all_goals with_reducible rfl)
      try simp only [Act.put, List.setIfInBounds_toArray, List.set_cons_zero, List.set_cons_succ]
      refine wpAnyH_take (i := 11) (oi := ⟨some 151, _, _, _, _, _⟩) (v := ?_) rfl (by kernel_rfl) (by kernel_rfl) (by kernel_rfl) (fun _ _ _ h => h) (Or.inl ⟨by kernel_rfl, ?_⟩) (by assumption) ?_
      rotate_left
      · (intro w hSw; (try dsimp only at hSw); go_simp; all_goals with_reducible rfl)
      try simp only [Act.put, List.setIfInBounds_toArray, List.set_cons_zero, List.set_cons_succ]
      refine wpAnyH_take (i := 12) (oi := ⟨some 16, _, _, _, _, _⟩) (v := ?_) rfl (by kernel_rfl) (by kernel_rfl) (by kernel_rfl) (fun _ _ _ h => h) (Or.inl ⟨by kernel_rfl, ?_⟩) (by assumption) ?_
      rotate_left
      · (intro w hSw; (try dsimp only at hSw); go_simp; all_goals with_reducible rfl)
      try simp only [Act.put, List.setIfInBounds_toArray, List.set_cons_zero, List.set_cons_succ]
      refine wpAnyH_take (i := 13) (oi := ⟨some 17, _, _, _, _, _⟩) (v := ?_) rfl (by kernel_rfl) (by kernel_rfl) (by kernel_rfl) (fun _ _ _ h => h) (Or.inl ⟨by kernel_rfl, ?_⟩) (by assumption) ?_
      rotate_left
      · (intro w hSw; (try dsimp only at hSw); go_simp; all_goals with_reducible rfl)
      try simp only [Act.put, List.setIfInBounds_toArray, List.set_cons_zero, List.set_cons_succ]
      refine wpAnyH_done (by kernel_rfl) ?_ _
      have HA7 := Lib.hid (HA6.out.below hB2)
      have HB7 := Lib.hid (HB6.out.below hB2)
      have fB2 : Below w.heap.size w u2 := eB.trans (hB2.mono eB.size)
      clear HS' hHeld hB0 hB1 hb1 hb2 hB2 HSS HA6 HB6 HT1 e0 e1 e2 e3 e4 e5 e6 e7 eo0 en0
      go_wp2_with fail
      refine (HIN.out _ (some ⟨q6, qh, none⟩) (some ⟨q3, qf, none⟩) qe qc HC2.out HA7.out).mono ?_
      rintro e u3 ⟨rfl, hb3⟩
      have HC3 := Lib.hid (HC2.out.below hb3)
      have HB8 := Lib.hid (HB7.out.below hb3)
      have fB3 : Below w.heap.size w u3 := fB2.trans (hb3.mono fB2.size)
      clear hb3 HC2 HA7 HB7 fB2
      go_wp2_with fail
      refine (meet_t PC PB T.length (some ⟨q6, qh, none⟩) (some ⟨q4, qg, none⟩) qe qd _ lC lB (by omega) mCB HC3.out HB8.out).mono ?_
      rintro e u4 ⟨rfl, hb4⟩
      have fB4 : Below w.heap.size w u4 := fB3.trans (hb4.mono fB3.size)
      clear hb4
      go_wp2
      go_ret
      exact ⟨by first | rfl | simp, fB4⟩
theorem tissueMeets_any (T : List Cm) (L : List Ld) (A B : Option Addr) (cap cap' : Nat) (fr tz se o hh fi fn : Int) (I : List Int) (C : Option Addr) (capi : Nat) (w : World) (hl : T.length ≤ 9223372036854775807) (hl' : L.length ≤ 9223372036854775807) (hA : A = none → cap = 0) (hB : B = none → cap' = 0) (hT : SlCm w A T) (hL : SlLd w B L) (hlI : I.length ≤ 9223372036854775807) (hC : C = none → capi = 0) (hI : SlIn w C I) :
    Calls Try.prog 7 #[.agg #[.slice A T.length cap, .slice B L.length cap', .int .i64 fr, .int .i64 tz, .int .i64 se, .int .i64 o, .int .i64 hh, .int .i64 fi], .int .i64 fn, .slice C I.length capi] w fun e w' => e = .returned (.bool true) ∧ Below w.heap.size w w' := by
  cases hf : fewB T.length with
  | false => exact tissueMeets_few T L A B cap cap' fr tz se o hh fi fn I C capi w hl hl' hA hB hT hL hlI hC hI hf
  | true =>
    by_cases hz : firE [loadsE T L, legE fr tz se o hh, rngE fi 0 6] = 0
    · rcases inB_cases fn 0 6 with hn | hn
      · exact tissueMeets_good T L A B cap cap' fr tz se o hh fi fn I C capi w hl hl' hA hB hT hL hlI hC hI hf hz hn
      · exact tissueMeets_fine T L A B cap cap' fr tz se o hh fi fn I C capi w hl hl' hA hB hT hL hlI hC hI hf hz hn
    · exact tissueMeets_bad T L A B cap cap' fr tz se o hh fi fn I C capi w hl hl' hA hB hT hL hlI hC hI hf hz
end Go.Proofs.Ytchfhhmmjioajaa
