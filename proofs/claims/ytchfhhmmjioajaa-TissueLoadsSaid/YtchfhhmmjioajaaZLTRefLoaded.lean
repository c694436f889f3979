import Derived.Test.YtchfhhmmjioajaaZLTRefMarks
import Derived.Outline
namespace Go.Proofs.Ytchfhhmmjioajaa
open Go.ChangeShapes Go.WideShapes Go.ChangeAt Go.RowKit
set_option linter.unusedVariables false
set_option linter.unusedSimpArgs false
attribute [local go_sem ↓] Go.wp_at_zero Go.wp_at_succ
set_option maxRecDepth 100000 in
set_option maxHeartbeats 4000000 in
theorem refLoaded_any (T : List Cm) (P : List Ld) (A B : Option Addr) (cap cap' : Nat) (f t s o h : Int) (n : Nat) (w : World) (hl1 : 1 ≤ T.length) (hl16 : T.length ≤ 16) (hPl : P.length = T.length)
    (hc : ∀ k, (hk : k < T.length) → (1 ≤ T[k].n ∧ T[k].n ≤ 100000) ∧ 1 ≤ T[k].h ∧ T[k].h ≤ 100000) (hP : LdOk P)
    (f0 : 400 ≤ f) (f1 : f ≤ 31100) (t0 : 400 ≤ t) (t1 : t ≤ 31100) (s0 : 0 ≤ s) (s1 : s ≤ 100000) (o0 : 0 ≤ o) (h0 : 0 ≤ h) (oh : o + h ≤ 1000) (hn : n ≤ 6) (hTS : SlCm w A T) (hPS : SlLd w B P) :
    Calls Try.prog 37 #[.slice A T.length cap, .slice B T.length cap', .agg #[.int .i64 f, .int .i64 t, .int .i64 s, .int .i64 o, .int .i64 h], .int .i64 n] w (LoadedL T.length (ldR f t s n o h T P (stK s n)) w) := by
  have HT := Lib.hid hTS
  have HC := Lib.hid hc
  have HOK := Lib.hid (fun j hj => ldR_ok (f := f) (t := t) (s := s) (o := o) (h := h) (n := n) hPl hc hP f0 f1 t0 t1 s0 hn o0 h0 oh j hj)
  rcases hPS with hnil | ⟨pb, po, hBB, plt, PL⟩
  · rw [hnil] at hPl; simp at hPl; omega
  subst hBB
  obtain ⟨i0, hi, hz0, hz1, hz2⟩ := info_parts infoLd
  have HI := Lib.hid hi
  have HZ0 := Lib.hid hz0
  have HZ1 := Lib.hid hz1
  have HZ2 := Lib.hid hz2
  have HL := Lib.hid (show (lcs P).length = T.length * 4 by rw [lcs_len, hPl])
  have HFo := Lib.hid (lcs_one P)
  have HPL := Lib.hid PL
  have HPlen := Lib.hid hPl
  have e1 : IntKind.i64.wrap (2 * (n : Int)) = 2 * (n : Int) := IntWalk.i64_in _ (by omega)
  have e2 : IntKind.i64.wrap (8 + 2 * (n : Int)) = ((8 + 2 * n : Nat) : Int) := by rw [IntWalk.i64_in _ (by omega)]; omega
  have HRo := Lib.hid (fun w => refRoots_any (8 + 2 * n) w (by omega))
  have HMa := Lib.hid (fun w => refMarks_any f t s o h n w f0 f1 t0 t1 s0 s1 hn)
  clear hTS hc hP PL hPl hi hz0 hz1 hz2
  go_enter Try.func37, Try.ntmps37
  go_upto_region 1 with (fail)
  have g0 : (w.alloc (.cells #[.int .i64 f, .int .i64 t, .int .i64 s, .int .i64 o, .int .i64 h] 55)).cell? ⟨w.heap.size, 0, none⟩ = some (.int .i64 f) := by simp [go_sem, World.cell?_alloc_past]
  have g1 : (w.alloc (.cells #[.int .i64 f, .int .i64 t, .int .i64 s, .int .i64 o, .int .i64 h] 55)).cell? ⟨w.heap.size, 1, none⟩ = some (.int .i64 t) := by simp [go_sem, World.cell?_alloc_past]
  have g2 : (w.alloc (.cells #[.int .i64 f, .int .i64 t, .int .i64 s, .int .i64 o, .int .i64 h] 55)).cell? ⟨w.heap.size, 2, none⟩ = some (.int .i64 s) := by simp [go_sem, World.cell?_alloc_past]
  have g3 : (w.alloc (.cells #[.int .i64 f, .int .i64 t, .int .i64 s, .int .i64 o, .int .i64 h] 55)).cell? ⟨w.heap.size, 3, none⟩ = some (.int .i64 o) := by simp [go_sem, World.cell?_alloc_past]
  have g4 : (w.alloc (.cells #[.int .i64 f, .int .i64 t, .int .i64 s, .int .i64 o, .int .i64 h] 55)).cell? ⟨w.heap.size, 4, none⟩ = some (.int .i64 h) := by simp [go_sem, World.cell?_alloc_past]
  have lw1 : w.heap.size < (w.alloc (.cells #[.int .i64 f, .int .i64 t, .int .i64 s, .int .i64 o, .int .i64 h] 55)).heap.size := by simp
  have hb1 : Below w.heap.size w (w.alloc (.cells #[.int .i64 f, .int .i64 t, .int .i64 s, .int .i64 o, .int .i64 h] 55)) := (by (repeat (first | (with_reducible refine Below.drew ?_) | (with_reducible refine below_drewN ?_ _) | (with_reducible refine Below.alloc ?_ (by first | omega | (simp; done) | (simp; omega) | (simp at *; omega)) _) | (with_reducible refine Below.setCell ?_ (by first | omega | (simp; done) | (simp; omega) | (simp at *; omega)) _) | (with_reducible exact Below.refl _ _) | (with_reducible assumption) | (with_reducible refine Below.trans ?_ (Below.mono (by assumption) (by first | omega | (simp; done) | (simp; omega) | (simp at *; omega)))))))
  generalize hm : (w.alloc (.cells #[.int .i64 f, .int .i64 t, .int .i64 s, .int .i64 o, .int .i64 h] 55)) = w1 at *
  clear hm
  have HS : Hid (∀ w', Below w1.heap.size w1 w' → w'.cell? ⟨w.heap.size, 0, none⟩ = some (.int .i64 f) ∧ w'.cell? ⟨w.heap.size, 1, none⟩ = some (.int .i64 t) ∧ w'.cell? ⟨w.heap.size, 2, none⟩ = some (.int .i64 s) ∧ w'.cell? ⟨w.heap.size, 3, none⟩ = some (.int .i64 o) ∧ w'.cell? ⟨w.heap.size, 4, none⟩ = some (.int .i64 h)) := fun w' hb => ⟨(hb.cell (p := ⟨w.heap.size, 0, none⟩) lw1).trans g0, (hb.cell (p := ⟨w.heap.size, 1, none⟩) lw1).trans g1, (hb.cell (p := ⟨w.heap.size, 2, none⟩) lw1).trans g2, (hb.cell (p := ⟨w.heap.size, 3, none⟩) lw1).trans g3, (hb.cell (p := ⟨w.heap.size, 4, none⟩) lw1).trans g4⟩
  clear g0 g1 g2 g3 g4
  have hBd : Below w1.heap.size w1 w1.drew := (Below.refl w1.heap.size w1).drew
  refine wp_region_held_drew (S := (fun w' => w'.cell? ⟨w.heap.size, 0, none⟩ = some (.int .i64 f) ∧ w'.cell? ⟨w.heap.size, 1, none⟩ = some (.int .i64 t) ∧ w'.cell? ⟨w.heap.size, 2, none⟩ = some (.int .i64 s) ∧ w'.cell? ⟨w.heap.size, 3, none⟩ = some (.int .i64 o) ∧ w'.cell? ⟨w.heap.size, 4, none⟩ = some (.int .i64 h))) (by kernel_rfl) (by exact HS.out _ hBd) (fun hHeld => ?_)
  generalize hdr : w1.drew = u0 at *
  clear hdr
  refine wpAnyH_take (i := 0) (oi := ⟨some 13, _, _, _, _, _⟩) (v := ?_) rfl (by kernel_rfl) (by kernel_rfl) (by kernel_rfl) (fun _ _ _ h => h) (Or.inl ⟨by kernel_rfl, ?_⟩) (by assumption) ?_
  rotate_left
  · (intro w hSw; (try dsimp only at hSw); go_simp; all_goals with_reducible rfl)
  try simp only [Act.put, List.setIfInBounds_toArray, List.set_cons_zero, List.set_cons_succ]
  refine wpAnyH_take (i := 1) (oi := ⟨some 14, _, _, _, _, _⟩) (v := ?_) rfl (by kernel_rfl) (by kernel_rfl) (by kernel_rfl) (fun _ _ _ h => h) (Or.inl ⟨by kernel_rfl, ?_⟩) (by assumption) ?_
  rotate_left
  · (intro w hSw; (try dsimp only at hSw); go_simp; all_goals with_reducible rfl)
  try simp only [Act.put, List.setIfInBounds_toArray, List.set_cons_zero, List.set_cons_succ]
  refine wpAnyH_take (i := 2) (oi := ⟨some 15, _, _, _, _, _⟩) (v := ?_) rfl (by kernel_rfl) (by kernel_rfl) (by kernel_rfl) (fun _ _ _ h => h) (Or.inl ⟨by kernel_rfl, ?_⟩) (by assumption) ?_
  rotate_left
  · (intro w hSw; (try dsimp only at hSw); go_simp; all_goals with_reducible rfl)
  try simp only [Act.put, List.setIfInBounds_toArray, List.set_cons_zero, List.set_cons_succ]
  refine wpAnyH_take (i := 4) (oi := ⟨some 17, _, _, _, _, _⟩) (v := ?_) rfl (by kernel_rfl) (by kernel_rfl) (by kernel_rfl) (fun _ _ _ h => h) (Or.inl ⟨by kernel_rfl, ?_⟩) (by assumption) ?_
  rotate_left
  · (intro w hSw; (try dsimp only at hSw); go_simp; all_goals with_reducible rfl)
  try simp only [Act.put, List.setIfInBounds_toArray, List.set_cons_zero, List.set_cons_succ]
  refine wpAnyH_take (i := 5) (oi := ⟨some 18, _, _, _, _, _⟩) (v := ?_) rfl (by kernel_rfl) (by kernel_rfl) (by kernel_rfl) (fun _ _ _ h => h) (Or.inl ⟨by kernel_rfl, ?_⟩) (by assumption) ?_
  rotate_left
  · (intro w hSw; (try dsimp only at hSw); go_simp; all_goals with_reducible rfl)
  try simp only [Act.put, List.setIfInBounds_toArray, List.set_cons_zero, List.set_cons_succ]
  refine wpAnyH_ready (rs := [3]) (by kernel_rfl) (by simp) ?_
  refine AllReadyH.cons rfl (fun K hK => ?_) AllReadyH.nil
  go_simp
  refine (HRo.out _).mono ?_
  rintro e v1 ⟨vr, rfl, ⟨rb, rcap, rfl, rlt, _, hcap, hcap2, hRt⟩, hv1⟩
  have hV1 : Below w1.heap.size w1 v1 := hBd.trans (hv1.mono hBd.size)
  have HRt : Hid (RtAt v1 rb (8 + 2 * n)) := hRt
  clear hv1 hRt
  go_wp2_with fail
  refine hK.out _ _ (by exact HS.out _ hV1) (fun hHeld => ?_)
  clear hK K
  try simp only [Act.put, List.setIfInBounds_toArray, List.set_cons_zero, List.set_cons_succ]
  refine wpAnyH_ready (rs := [6]) (by kernel_rfl) (by simp) ?_
  refine AllReadyH.cons rfl (fun K hK => ?_) AllReadyH.nil
  go_simp
  refine (HMa.out _).mono ?_
  rintro e v2 ⟨Am, mcap, rfl, hSm, hv2⟩
  have HSm := Lib.hid hSm
  have HRt2 := Lib.hid (HRt.out.below hv2 rlt)
  have rlt2 : rb < v2.heap.size := Nat.lt_of_lt_of_le rlt hv2.size
  have hV2 : Below w1.heap.size w1 v2 := hV1.trans (hv2.mono hV1.size)
  clear hv2 hSm HRt
  go_wp2_with fail
  refine hK.out _ _ (by exact HS.out _ hV2) (fun hHeld => ?_)
  clear hK K
  try simp only [Act.put, List.setIfInBounds_toArray, List.set_cons_zero, List.set_cons_succ]
  refine wpAnyH_take (i := 7) (oi := ⟨some 9, _, _, _, _, _⟩) (v := ?_) rfl (by kernel_rfl) (by kernel_rfl) (by kernel_rfl) (fun _ _ _ h => h) (Or.inl ⟨by kernel_rfl, ?_⟩) (by assumption) ?_
  rotate_left
  · (intro w hSw; (try dsimp only at hSw); go_simp; all_goals with_reducible rfl)
  try simp only [Act.put, List.setIfInBounds_toArray, List.set_cons_zero, List.set_cons_succ]
  refine wpAnyH_take (i := 8) (oi := ⟨some 10, _, _, _, _, _⟩) (v := ?_) rfl (by kernel_rfl) (by kernel_rfl) (by kernel_rfl) (fun _ _ _ h => h) (Or.inl ⟨by kernel_rfl, ?_⟩) (by assumption) ?_
  rotate_left
  · (intro w hSw; (try dsimp only at hSw); go_simp; all_goals with_reducible rfl)
  try simp only [Act.put, List.setIfInBounds_toArray, List.set_cons_zero, List.set_cons_succ]
  refine wpAnyH_done (by kernel_rfl) ?_ _
  have hBv : Below w.heap.size w v2 := hb1.trans (hV2.mono hb1.size)
  have HCells : Hid (∀ j u, (lcs P)[j]? = some u → (v2.alloc (.cells #[] 45)).cell? ((⟨pb, po, none⟩ : Addr).add j) = some u) := lcs_cells (HPL.out.below (hBv.alloc hBv.size (.cells #[] 45)) plt)
  have HOn := Lib.hid (World.ownsRow_made (base := v2.heap.size) (e := 45) (size := 4) v2 #[] 0 (Nat.le_refl _) (by simp) (by simp))
  go_wp2_with (at_builtin; refine wpList_append_own_at _ rfl _ _ 36 rfl v2.heap.size 45 i0 (.agg #[.int .i64 0, .int .i64 0, .int .i64 0, .int .i64 0]) 4 32 Try.underlying36 HI.out HZ0.out HZ1.out HZ2.out rfl (by decide) _ 0 [] rfl HOn.out ⟨pb, po, none⟩ T.length cap' (lcs P) rfl HL.out HCells.out HFo.out ?c1 ?c2 ?c3 ?_)
  case c1 => unfold maxLen; omega
  case c2 => omega
  case c3 => simp
  intro v' w3 hown hgrow _ hblk
  have hB3 : Below v2.heap.size v2 w3 := ((Below.refl v2.heap.size v2).alloc (Nat.le_refl _) _).grown hgrow (by simp) (by intro k hk; simp [Value.ownBlock] at hk; omega)
  (try simp only [Nat.zero_add, List.nil_append] at hown)
  obtain ⟨A0, c0', hv', hS0, _⟩ := SlLd_own (P := P) (by rw [HPlen.out]; exact hown)
  rw [HPlen.out] at hv'
  subst hv'
  have HS0 := Lib.hid hS0
  have HT3 := Lib.hid ((HT.out.below hBv).below hB3)
  have HR3 := Lib.hid (HRt2.out.below hB3 rlt2)
  have HM3 := Lib.hid (HSm.out.below hB3)
  have rlt3 : rb < w3.heap.size := Nat.lt_of_lt_of_le rlt2 hB3.size
  have hV3 : Below w1.heap.size w1 w3 := hV2.trans (hB3.mono hV2.size)
  have hBw3 : Below w.heap.size w w3 := hb1.trans (hV3.mono hb1.size)
  clear hown hgrow hblk hS0 HCells HOn HT HRt2 HSm hB3
  obtain ⟨M, hM⟩ : ∃ z, Hid (stK s n = z) := ⟨_, rfl⟩
  have hMb : M ≤ 64 := by
    rw [← hM.out]; unfold stK
    split
    · omega
    · exact Nat.le_trans (Nat.pow_le_pow_right (by omega) hn) (by decide)
  rw [hM.out] at HM3 HOK ⊢
  go_wp2
  go_loopw [11, 12] (fun v i wr => ∃ j k : Nat, Hid (k = j + 1) ∧ k ≤ M + 1 ∧ i = .int .i64 k ∧ (∃ A' c', v = .slice A' T.length c' ∧ Hid (SlLd wr A' (ldR f t s n o h T P j))) ∧ Below w3.heap.size w3 wr) (fun _ i _ => M + 1 - (intOf i).toNat)
  case atStart => exact ⟨0, 1, rfl, by omega, rfl, ⟨A0, c0', rfl, HS0⟩, Below.refl _ _⟩
  case round =>
    obtain ⟨j, k, HKJ, hk, rfl, ⟨A', c', rfl, HLd⟩, hB⟩ := hrel
    have hkj := HKJ.out
    have sz := hB.size
    have hBw : Below w.heap.size w wr := hBw3.trans (hB.mono hBw3.size)
    by_cases hkl : k ≤ M
    · have hkl2 : (k : Int) < ((M + 1 : Nat) : Int) := by omega
      have hjl3 : (j : Int) < (M : Int) + 1 := by omega
      rcases HM3.out with hnil | ⟨mb, mo, hAA, mlt, ML⟩
      · have := congrArg List.length hnil; simp at this
      subst hAA
      have hlm : ((List.range (M + 1)).map (markR f t s n)).length = M + 1 := by simp
      obtain ⟨c0, c1, c2⟩ := ML j (by omega)
      obtain ⟨d0, d1, d2⟩ := ML k (by omega)
      simp only [List.getElem_map, List.getElem_range] at c0 c1 c2 d0 d1 d2
      have hB12 := HOK.out j (by omega)
      obtain ⟨⟨ab1, ab2⟩, ab3, ab4⟩ := ar_bd (j := j) f0 f1 t0 t1 s0 hn (by rw [hM.out]; omega)
      have mm := mkS_mono (n := n) (j := j) s0
      have mb1 := mkS_bd (s := s) (n := n) (j := (j : Int)) s0 hn (by omega) (stK_le (s := s) (by rw [hM.out]; omega))
      have mb2 := mkS_bd (s := s) (n := n) (j := ((j + 1 : Nat) : Int)) s0 hn (by omega) (stK_le (s := s) (by rw [hM.out]; omega))
      have hnext : ldR f t s n o h T P k = (List.range T.length).map (stepR (mkS s n ((j + 1 : Nat) : Int) - mkS s n j) (8 + 2 * n) T (ldR f t s n o h T P j) ((1000 - o - h) * (arLo f t s n j - 63)) ((1000 - o - h) * (arHi f t s n j - 63)) (h * (arLo f t s n j - 63)) (h * (arHi f t s n j - 63))) := by rw [hkj]; rfl
      have ha1 : min (markR f t s n j).d (markR f t s n k).d = arLo f t s n j := by rw [hkj]; rfl
      have ha2 : max (markR f t s n j).g (markR f t s n k).g = arHi f t s n j := by rw [hkj]; rfl
      have hs1' : (markR f t s n j).s = mkS s n j := rfl
      have hs2' : (markR f t s n k).s = mkS s n ((j + 1 : Nat) : Int) := by rw [hkj]; rfl
      rw [hs1'] at c0
      rw [hs2'] at d0
      obtain ⟨S0, hS0'⟩ : ∃ z, Hid (mkS s n j = z) := ⟨_, rfl⟩
      obtain ⟨S1, hS1'⟩ : ∃ z, Hid (mkS s n ((j + 1 : Nat) : Int) = z) := ⟨_, rfl⟩
      obtain ⟨lo, hlo⟩ : ∃ z, Hid (arLo f t s n j = z) := ⟨_, rfl⟩
      obtain ⟨hh, hhh⟩ : ∃ z, Hid (arHi f t s n j = z) := ⟨_, rfl⟩
      rw [hS0'.out] at c0 mm mb1 hnext
      rw [hS1'.out] at d0 mm mb2 hnext
      rw [hlo.out] at ab1 ab2 ha1 hnext
      rw [hhh.out] at ab3 ab4 ha2 hnext
      obtain ⟨y1, hy1⟩ : ∃ z, Hid ((markR f t s n j).d = z) := ⟨_, rfl⟩
      obtain ⟨y2, hy2⟩ : ∃ z, Hid ((markR f t s n j).g = z) := ⟨_, rfl⟩
      obtain ⟨y3, hy3⟩ : ∃ z, Hid ((markR f t s n k).d = z) := ⟨_, rfl⟩
      obtain ⟨y4, hy4⟩ : ∃ z, Hid ((markR f t s n k).g = z) := ⟨_, rfl⟩
      rw [hy1.out] at c1 ha1
      rw [hy2.out] at c2 ha2
      rw [hy3.out] at d1 ha1
      rw [hy4.out] at d2 ha2
      obtain ⟨ds, hds⟩ : ∃ z, Hid (S1 - S0 = z) := ⟨_, rfl⟩
      have bds : 0 ≤ ds ∧ ds ≤ 1000000 := by rw [← hds.out]; omega
      rw [hds.out] at hnext
      have e3 : IntKind.i64.wrap ((k : Int) - 1) = (j : Int) := by rw [show (k : Int) - 1 = j by omega]; exact IntWalk.i64_in _ (by omega)
      have e4 : IntKind.i64.wrap (S1 - S0) = ds := by rw [hds.out]; exact IntWalk.i64_in _ (by omega)
      have HA : Hid (∀ w', Calls Try.prog 92 #[.agg #[.int .i64 S0, .int .i64 y1, .int .i64 y2], .agg #[.int .i64 S1, .int .i64 y3, .int .i64 y4]] w' fun e w'' => e = .returned (.agg #[.int .i64 lo, .int .i64 hh]) ∧ Below w'.heap.size w' w'') := fun w' => by
        rw [← ha1, ← ha2]; exact refAround_any S0 y1 y2 S1 y3 y4 w'
      have HST : Hid (∀ w', Below wr.heap.size wr w' → Calls Try.prog 91 #[.slice A T.length cap, .slice A' T.length c', .int .i64 ds, .agg #[.int .i64 lo, .int .i64 hh], .agg #[.int .i64 o, .int .i64 h], .slice (some ⟨rb, 0, none⟩) (8 + 2 * n + 1) rcap] w' (RowsL T.length (stepR ds (8 + 2 * n) T (ldR f t s n o h T P j) ((1000 - o - h) * (lo - 63)) ((1000 - o - h) * (hh - 63)) (h * (lo - 63)) (h * (hh - 63))) w')) := fun w' hb => by
        have hb3 : Below w3.heap.size w3 w' := hB.trans (hb.mono sz)
        exact refStep_any T (ldR f t s n o h T P j) A A' cap c' ds lo hh o h _ _ _ _ (8 + 2 * n) rb rcap w' hl16 hB12.1 HC.out hB12.2 bds.1 bds.2 ab1 ab2 ab3 ab4 o0 (by omega) h0 (by omega) oh rfl rfl rfl rfl (by omega) (Nat.lt_of_lt_of_le rlt3 hb3.size) hcap hcap2 (HR3.out.below hb3 rlt3) (HT3.out.below hb3) (HLd.out.below hb)
      have HNX := Lib.hid hnext
      have mlt1 : mb < wr.heap.size := by omega
      replace c0 := (hB.cell (p := ⟨mb, mo + j * 3, none⟩) mlt).trans c0
      replace c1 := (hB.cell (p := ⟨mb, mo + j * 3 + 1, none⟩) mlt).trans c1
      replace c2 := (hB.cell (p := ⟨mb, mo + j * 3 + 2, none⟩) mlt).trans c2
      replace d0 := (hB.cell (p := ⟨mb, mo + k * 3, none⟩) mlt).trans d0
      replace d1 := (hB.cell (p := ⟨mb, mo + k * 3 + 1, none⟩) mlt).trans d1
      replace d2 := (hB.cell (p := ⟨mb, mo + k * 3 + 2, none⟩) mlt).trans d2
      obtain ⟨_, _, _, q3, q4⟩ := HS.out _ (hV3.trans (hB.mono hV3.size))
      have lwr : w.heap.size < wr.heap.size := by have := hV3.size; omega
      clear hkj ML hnext ha1 ha2 hs1' hs2' hS0' hS1' hlo hhh hy1 hy2 hy3 hy4 hds hlm
      go_upto_region 6 with (fail)
      have hB0 : Below wr.heap.size wr wr.drew := (Below.refl wr.heap.size wr).drew
      have HT' : Hid (∀ w', Below wr.heap.size wr w' → w'.cell? ⟨mb, mo + j * 3, none⟩ = some (.int .i64 S0) ∧ w'.cell? ⟨mb, mo + j * 3 + 1, none⟩ = some (.int .i64 y1) ∧ w'.cell? ⟨mb, mo + j * 3 + 2, none⟩ = some (.int .i64 y2) ∧ w'.cell? ⟨mb, mo + k * 3, none⟩ = some (.int .i64 S1) ∧ w'.cell? ⟨mb, mo + k * 3 + 1, none⟩ = some (.int .i64 y3) ∧ w'.cell? ⟨mb, mo + k * 3 + 2, none⟩ = some (.int .i64 y4) ∧ w'.cell? ⟨w.heap.size, 3, none⟩ = some (.int .i64 o) ∧ w'.cell? ⟨w.heap.size, 4, none⟩ = some (.int .i64 h)) := fun w' hb => ⟨(hb.cell (p := ⟨mb, mo + j * 3, none⟩) mlt1).trans c0, (hb.cell (p := ⟨mb, mo + j * 3 + 1, none⟩) mlt1).trans c1, (hb.cell (p := ⟨mb, mo + j * 3 + 2, none⟩) mlt1).trans c2, (hb.cell (p := ⟨mb, mo + k * 3, none⟩) mlt1).trans d0, (hb.cell (p := ⟨mb, mo + k * 3 + 1, none⟩) mlt1).trans d1, (hb.cell (p := ⟨mb, mo + k * 3 + 2, none⟩) mlt1).trans d2, (hb.cell (p := ⟨w.heap.size, 3, none⟩) lwr).trans q3, (hb.cell (p := ⟨w.heap.size, 4, none⟩) lwr).trans q4⟩
      clear c0 c1 c2 d0 d1 d2 q3 q4
      refine wp_region_held_drew (S := (fun w' => w'.cell? ⟨mb, mo + j * 3, none⟩ = some (.int .i64 S0) ∧ w'.cell? ⟨mb, mo + j * 3 + 1, none⟩ = some (.int .i64 y1) ∧ w'.cell? ⟨mb, mo + j * 3 + 2, none⟩ = some (.int .i64 y2) ∧ w'.cell? ⟨mb, mo + k * 3, none⟩ = some (.int .i64 S1) ∧ w'.cell? ⟨mb, mo + k * 3 + 1, none⟩ = some (.int .i64 y3) ∧ w'.cell? ⟨mb, mo + k * 3 + 2, none⟩ = some (.int .i64 y4) ∧ w'.cell? ⟨w.heap.size, 3, none⟩ = some (.int .i64 o) ∧ w'.cell? ⟨w.heap.size, 4, none⟩ = some (.int .i64 h))) (by kernel_rfl) (by exact HT'.out _ hB0) (fun hHeld => ?_)
      generalize hdr : wr.drew = u0 at *
      clear hdr
      refine wpAnyH_take (i := 0) (oi := ⟨some 29, _, _, _, _, _⟩) (v := ?_) rfl (by kernel_rfl) (by kernel_rfl) (by kernel_rfl) (fun _ _ _ h => h) (Or.inl ⟨by kernel_rfl, ?_⟩) (by assumption) ?_
      rotate_left
      · (intro w hSw; (try dsimp only at hSw); go_simp; all_goals with_reducible rfl)
      try simp only [Act.put, List.setIfInBounds_toArray, List.set_cons_zero, List.set_cons_succ]
      refine wpAnyH_take (i := 1) (oi := ⟨some 30, _, _, _, _, _⟩) (v := ?_) rfl (by kernel_rfl) (by kernel_rfl) (by kernel_rfl) (fun _ _ _ h => h) (Or.inl ⟨by kernel_rfl, ?_⟩) (by assumption) ?_
      rotate_left
      · (intro w hSw; (try dsimp only at hSw); go_simp; all_goals with_reducible rfl)
      try simp only [Act.put, List.setIfInBounds_toArray, List.set_cons_zero, List.set_cons_succ]
      refine wpAnyH_take (i := 2) (oi := ⟨some 31, _, _, _, _, _⟩) (v := ?_) rfl (by kernel_rfl) (by kernel_rfl) (by kernel_rfl) (fun _ _ _ h => h) (Or.inl ⟨by kernel_rfl, ?_⟩) (by assumption) ?_
      rotate_left
      · (intro w hSw; (try dsimp only at hSw); go_simp; all_goals with_reducible rfl)
      try simp only [Act.put, List.setIfInBounds_toArray, List.set_cons_zero, List.set_cons_succ]
      refine wpAnyH_take (i := 3) (oi := ⟨some 32, _, _, _, _, _⟩) (v := ?_) rfl (by kernel_rfl) (by kernel_rfl) (by kernel_rfl) (fun _ _ _ h => h) (Or.inl ⟨by kernel_rfl, ?_⟩) (by assumption) ?_
      rotate_left
      · (intro w hSw; (try dsimp only at hSw); go_simp; all_goals with_reducible rfl)
      try simp only [Act.put, List.setIfInBounds_toArray, List.set_cons_zero, List.set_cons_succ]
      refine wpAnyH_take (i := 4) (oi := ⟨some 33, _, _, _, _, _⟩) (v := ?_) rfl (by kernel_rfl) (by kernel_rfl) (by kernel_rfl) (fun _ _ _ h => h) (Or.inl ⟨by kernel_rfl, ?_⟩) (by assumption) ?_
      rotate_left
      · (intro w hSw; (try dsimp only at hSw); go_simp; all_goals with_reducible rfl)
      try simp only [Act.put, List.setIfInBounds_toArray, List.set_cons_zero, List.set_cons_succ]
      refine wpAnyH_take (i := 5) (oi := ⟨some 34, _, _, _, _, _⟩) (v := ?_) rfl (by kernel_rfl) (by kernel_rfl) (by kernel_rfl) (fun _ _ _ h => h) (Or.inl ⟨by kernel_rfl, ?_⟩) (by assumption) ?_
      rotate_left
      · (intro w hSw; (try dsimp only at hSw); go_simp; all_goals with_reducible rfl)
      try simp only [Act.put, List.setIfInBounds_toArray, List.set_cons_zero, List.set_cons_succ]
      refine wpAnyH_take (i := 6) (oi := ⟨some 35, _, _, _, _, _⟩) (v := ?_) rfl (by kernel_rfl) (by kernel_rfl) (by kernel_rfl) (fun _ _ _ h => h) (Or.inl ⟨by kernel_rfl, ?_⟩) (by assumption) ?_
      rotate_left
      · (intro w hSw; (try dsimp only at hSw); go_simp; all_goals with_reducible rfl)
      try simp only [Act.put, List.setIfInBounds_toArray, List.set_cons_zero, List.set_cons_succ]
      refine wpAnyH_take (i := 7) (oi := ⟨some 36, _, _, _, _, _⟩) (v := ?_) rfl (by kernel_rfl) (by kernel_rfl) (by kernel_rfl) (fun _ _ _ h => h) (Or.inl ⟨by kernel_rfl, ?_⟩) (by assumption) ?_
      rotate_left
      · (intro w hSw; (try dsimp only at hSw); go_simp; all_goals with_reducible rfl)
      try simp only [Act.put, List.setIfInBounds_toArray, List.set_cons_zero, List.set_cons_succ]
      refine wpAnyH_take (i := 8) (oi := ⟨some 37, _, _, _, _, _⟩) (v := ?_) rfl (by kernel_rfl) (by kernel_rfl) (by kernel_rfl) (fun _ _ _ h => h) (Or.inl ⟨by kernel_rfl, ?_⟩) (by assumption) ?_
      rotate_left
      · (intro w hSw; (try dsimp only at hSw); go_simp; all_goals with_reducible rfl)
      try simp only [Act.put, List.setIfInBounds_toArray, List.set_cons_zero, List.set_cons_succ]
      refine wpAnyH_take (i := 9) (oi := ⟨some 38, _, _, _, _, _⟩) (v := ?_) rfl (by kernel_rfl) (by kernel_rfl) (by kernel_rfl) (fun _ _ _ h => h) (Or.inl ⟨by kernel_rfl, ?_⟩) (by assumption) ?_
      rotate_left
      · (intro w hSw; (try dsimp only at hSw); go_simp; all_goals with_reducible rfl)
      try simp only [Act.put, List.setIfInBounds_toArray, List.set_cons_zero, List.set_cons_succ]
      refine wpAnyH_take (i := 10) (oi := ⟨some 39, _, _, _, _, _⟩) (v := ?_) rfl (by kernel_rfl) (by kernel_rfl) (by kernel_rfl) (fun _ _ _ h => h) (Or.inl ⟨by kernel_rfl, ?_⟩) (by assumption) ?_
      rotate_left
      · (intro w hSw; (try dsimp only at hSw); go_simp; all_goals with_reducible rfl)
      try simp only [Act.put, List.setIfInBounds_toArray, List.set_cons_zero, List.set_cons_succ]
      refine wpAnyH_take (i := 11) (oi := ⟨some 40, _, _, _, _, _⟩) (v := ?_) rfl (by kernel_rfl) (by kernel_rfl) (by kernel_rfl) (fun _ _ _ h => h) (Or.inl ⟨by kernel_rfl, ?_⟩) (by assumption) ?_
      rotate_left
      · (intro w hSw; (try dsimp only at hSw); go_simp; all_goals with_reducible rfl)
      try simp only [Act.put, List.setIfInBounds_toArray, List.set_cons_zero, List.set_cons_succ]
      refine wpAnyH_take (i := 12) (oi := ⟨some 41, _, _, _, _, _⟩) (v := ?_) rfl (by kernel_rfl) (by kernel_rfl) (by kernel_rfl) (fun _ _ _ h => h) (Or.inl ⟨by kernel_rfl, ?_⟩) (by assumption) ?_
      rotate_left
      · (intro w hSw; (try dsimp only at hSw); go_simp; all_goals with_reducible rfl)
      try simp only [Act.put, List.setIfInBounds_toArray, List.set_cons_zero, List.set_cons_succ]
      refine wpAnyH_take (i := 13) (oi := ⟨some 42, _, _, _, _, _⟩) (v := ?_) rfl (by kernel_rfl) (by kernel_rfl) (by kernel_rfl) (fun _ _ _ h => h) (Or.inl ⟨by kernel_rfl, ?_⟩) (by assumption) ?_
      rotate_left
      · (intro w hSw; (try dsimp only at hSw); go_simp; all_goals with_reducible rfl)
      try simp only [Act.put, List.setIfInBounds_toArray, List.set_cons_zero, List.set_cons_succ]
      refine wpAnyH_take (i := 14) (oi := ⟨some 43, _, _, _, _, _⟩) (v := ?_) rfl (by kernel_rfl) (by kernel_rfl) (by kernel_rfl) (fun _ _ _ h => h) (Or.inl ⟨by kernel_rfl, ?_⟩) (by assumption) ?_
      rotate_left
      · (intro w hSw; (try dsimp only at hSw); go_simp; all_goals with_reducible rfl)
      try simp only [Act.put, List.setIfInBounds_toArray, List.set_cons_zero, List.set_cons_succ]
      refine wpAnyH_take (i := 15) (oi := ⟨some 44, _, _, _, _, _⟩) (v := ?_) rfl (by kernel_rfl) (by kernel_rfl) (by kernel_rfl) (fun _ _ _ h => h) (Or.inl ⟨by kernel_rfl, ?_⟩) (by assumption) ?_
      rotate_left
      · (intro w hSw; (try dsimp only at hSw); go_simp; all_goals with_reducible rfl)
      try simp only [Act.put, List.setIfInBounds_toArray, List.set_cons_zero, List.set_cons_succ]
      refine wpAnyH_take (i := 16) (oi := ⟨some 45, _, _, _, _, _⟩) (v := ?_) rfl (by kernel_rfl) (by kernel_rfl) (by kernel_rfl) (fun _ _ _ h => h) (Or.inl ⟨by kernel_rfl, ?_⟩) (by assumption) ?_
      rotate_left
      · (intro w hSw; (try dsimp only at hSw); go_simp; all_goals with_reducible rfl)
      try simp only [Act.put, List.setIfInBounds_toArray, List.set_cons_zero, List.set_cons_succ]
      refine wpAnyH_take (i := 17) (oi := ⟨some 46, _, _, _, _, _⟩) (v := ?_) rfl (by kernel_rfl) (by kernel_rfl) (by kernel_rfl) (fun _ _ _ h => h) (Or.inl ⟨by kernel_rfl, ?_⟩) (by assumption) ?_
      rotate_left
      · (intro w hSw; (try dsimp only at hSw); go_simp; all_goals with_reducible rfl)
      try simp only [Act.put, List.setIfInBounds_toArray, List.set_cons_zero, List.set_cons_succ]
      refine wpAnyH_take (i := 18) (oi := ⟨some 47, _, _, _, _, _⟩) (v := ?_) rfl (by kernel_rfl) (by kernel_rfl) (by kernel_rfl) (fun _ _ _ h => h) (Or.inl ⟨by kernel_rfl, ?_⟩) (by assumption) ?_
      rotate_left
      · (intro w hSw; (try dsimp only at hSw); go_simp; all_goals with_reducible rfl)
      try simp only [Act.put, List.setIfInBounds_toArray, List.set_cons_zero, List.set_cons_succ]
      refine wpAnyH_take (i := 19) (oi := ⟨some 48, _, _, _, _, _⟩) (v := ?_) rfl (by kernel_rfl) (by kernel_rfl) (by kernel_rfl) (fun _ _ _ h => h) (Or.inl ⟨by kernel_rfl, ?_⟩) (by assumption) ?_
      rotate_left
      · (intro w hSw; (try dsimp only at hSw); go_simp; all_goals with_reducible rfl)
      try simp only [Act.put, List.setIfInBounds_toArray, List.set_cons_zero, List.set_cons_succ]
      refine wpAnyH_take (i := 20) (oi := ⟨some 49, _, _, _, _, _⟩) (v := ?_) rfl (by kernel_rfl) (by kernel_rfl) (by kernel_rfl) (fun _ _ _ h => h) (Or.inl ⟨by kernel_rfl, ?_⟩) (by assumption) ?_
      rotate_left
      · (intro w hSw; (try dsimp only at hSw); go_simp; all_goals with_reducible rfl)
      try simp only [Act.put, List.setIfInBounds_toArray, List.set_cons_zero, List.set_cons_succ]
      refine wpAnyH_take (i := 21) (oi := ⟨some 50, _, _, _, _, _⟩) (v := ?_) rfl (by kernel_rfl) (by kernel_rfl) (by kernel_rfl) (fun _ _ _ h => h) (Or.inl ⟨by kernel_rfl, ?_⟩) (by assumption) ?_
      rotate_left
      · (intro w hSw; (try dsimp only at hSw); go_simp; all_goals with_reducible rfl)
      try simp only [Act.put, List.setIfInBounds_toArray, List.set_cons_zero, List.set_cons_succ]
      refine wpAnyH_take (i := 22) (oi := ⟨some 51, _, _, _, _, _⟩) (v := ?_) rfl (by kernel_rfl) (by kernel_rfl) (by kernel_rfl) (fun _ _ _ h => h) (Or.inl ⟨by kernel_rfl, ?_⟩) (by assumption) ?_
      rotate_left
      · (intro w hSw; (try dsimp only at hSw); go_simp; all_goals with_reducible rfl)
      try simp only [Act.put, List.setIfInBounds_toArray, List.set_cons_zero, List.set_cons_succ]
      refine wpAnyH_take (i := 24) (oi := ⟨some 53, _, _, _, _, _⟩) (v := ?_) rfl (by kernel_rfl) (by kernel_rfl) (by kernel_rfl) (fun _ _ _ h => h) (Or.inl ⟨by kernel_rfl, ?_⟩) (by assumption) ?_
      rotate_left
      · (intro w hSw; (try dsimp only at hSw); go_simp; all_goals with_reducible rfl)
      try simp only [Act.put, List.setIfInBounds_toArray, List.set_cons_zero, List.set_cons_succ]
      refine wpAnyH_take (i := 25) (oi := ⟨some 54, _, _, _, _, _⟩) (v := ?_) rfl (by kernel_rfl) (by kernel_rfl) (by kernel_rfl) (fun _ _ _ h => h) (Or.inl ⟨by kernel_rfl, ?_⟩) (by assumption) ?_
      rotate_left
      · (intro w hSw; (try dsimp only at hSw); go_simp; all_goals with_reducible rfl)
      try simp only [Act.put, List.setIfInBounds_toArray, List.set_cons_zero, List.set_cons_succ]
      refine wpAnyH_take (i := 26) (oi := ⟨some 55, _, _, _, _, _⟩) (v := ?_) rfl (by kernel_rfl) (by kernel_rfl) (by kernel_rfl) (fun _ _ _ h => h) (Or.inl ⟨by kernel_rfl, ?_⟩) (by assumption) ?_
      rotate_left
      · (intro w hSw; (try dsimp only at hSw); go_simp; all_goals with_reducible rfl)
      try simp only [Act.put, List.setIfInBounds_toArray, List.set_cons_zero, List.set_cons_succ]
      refine wpAnyH_ready (rs := [23]) (by kernel_rfl) (by simp) ?_
      refine AllReadyH.cons rfl (fun K hK => ?_) AllReadyH.nil
      go_simp
      refine (HA.out _).mono ?_
      rintro e x1 ⟨rfl, hx1⟩
      have hX1 : Below wr.heap.size wr x1 := hB0.trans (hx1.mono hB0.size)
      clear hx1
      go_wp2_with fail
      refine hK.out _ _ (by exact HT'.out _ hX1) (fun hHeld => ?_)
      clear hK K
      try simp only [Act.put, List.setIfInBounds_toArray, List.set_cons_zero, List.set_cons_succ]
      refine wpAnyH_ready (rs := [27]) (by kernel_rfl) (by simp) ?_
      refine AllReadyH.cons rfl (fun K hK => ?_) AllReadyH.nil
      go_simp
      refine (HST.out _ hX1).mono ?_
      rintro e x2 ⟨A2, c2', rfl, hS2, hx2⟩
      have hX2 : Below wr.heap.size wr x2 := hX1.trans (hx2.mono hX1.size)
      have HL2 : Hid (SlLd x2 A2 (ldR f t s n o h T P k)) := by show SlLd _ _ _; rw [HNX.out]; exact hS2
      clear hx2 hS2
      go_wp2_with fail
      refine hK.out _ _ (by exact HT'.out _ hX2) (fun hHeld => ?_)
      clear hK K
      try simp only [Act.put, List.setIfInBounds_toArray, List.set_cons_zero, List.set_cons_succ]
      refine wpAnyH_take (i := 28) (oi := ⟨some 11, _, _, _, _, _⟩) (v := ?_) rfl (by kernel_rfl) (by kernel_rfl) (by kernel_rfl) (fun _ _ _ h => h) (Or.inl ⟨by kernel_rfl, ?_⟩) (by assumption) ?_
      rotate_left
      · (intro w hSw; (try dsimp only at hSw); go_simp; all_goals with_reducible rfl)
      try simp only [Act.put, List.setIfInBounds_toArray, List.set_cons_zero, List.set_cons_succ]
      refine wpAnyH_done (by kernel_rfl) ?_ _
      have hB5 : Below w3.heap.size w3 x2 := hB.trans (hX2.mono sz)
      go_wp2
      go_roundw
      case rel => exact ⟨k, k + 1, rfl, by omega, by go_num, ⟨A2, c2', rfl, HL2⟩, hB5⟩
      case measure => (simp [intOf]) <;> omega
    · have hkl2 : ¬ (k : Int) < ((M + 1 : Nat) : Int) := by omega
      have hjM : j = M := by omega
      subst hjM
      clear hkj hk
      go_wp2
      go_ret
      exact ⟨A', c', rfl, by rw [hM.out]; exact HLd.out, hBw⟩
end Go.Proofs.Ytchfhhmmjioajaa
