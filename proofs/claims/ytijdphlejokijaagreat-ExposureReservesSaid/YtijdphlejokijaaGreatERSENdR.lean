import Derived.Test.YtijdphlejokijaaGreatERSENdM
import Derived.Test.YtijdphlejokijaaGreatERSECta
import Derived.Test.YtijdphlejokijaaGreatERSERck
import Derived.Test.YtijdphlejokijaaGreatERSERfC
import Derived.Test.YtijdphlejokijaaGreatERSEDpts
import Derived.Outline
namespace Go.Proofs.YtijdphlejokijaaGreat
open Go.ChangeShapes Go.WideShapes Go.ChangeAt Go.RowKit
set_option linter.unusedVariables false
set_option linter.unusedSimpArgs false
attribute [local go_sem ↓] Go.wp_at_zero Go.wp_at_succ

set_option maxRecDepth 100000 in
set_option maxHeartbeats 1000000 in
theorem refGasAt_is (nm : ByteArray) (s : Int) (G : List Ga) (D : List Le) (A B : Option Addr) (gn gc dn dc : Nat) (t : Int) (gk : Nat) (w : World) (hgn : Hid (gn = G.length)) (hdn : Hid (dn = D.length)) (hok : Hid (PlnOk nm s G D)) (hG : Hid (SlRows gaV 2 w A G)) (hD : Hid (SlRows leV 3 w B D)) (h0 : 0 < dn) (ht : Hid (t ≤ secT D dn)) (hg : Hid ((legK s G D (lgN D t)).g = (gk : Int))) :
    Calls Tryz.prog 61 #[.agg #[.string nm, .int .i64 s, .slice A gn gc, .slice B dn dc], .int .i64 t] w fun e w' => e = .returned (.int .i64 gk) ∧ Below w.heap.size w w' := by
  have d60 : dn ≤ 60 := by have := hok.out.d6; have := hdn.out; omega
  go_enter Tryz.func61, Tryz.ntmps61
  go_wp2
  go_loopw [5, 6] (fun v i wr => ∃ (k : Nat) (z : Int), k ≤ dn ∧ i = .int .i64 k ∧ v = .int .i64 z ∧ Hid (secT D k = z) ∧ Hid (∀ j, j < k → secT D (j + 1) < t) ∧ Hid (BlkF wr w.heap.size w.heap.size [.string nm, .int .i64 s, .slice A gn gc, .slice B dn dc]) ∧ Below w.heap.size w wr) (fun _ i _ => dn - (intOf i).toNat)
  case atStart => exact ⟨0, 0, by omega, rfl, rfl, Lib.hid rfl, Lib.hid (fun j hj => absurd hj (Nat.not_lt_zero _)), Lib.hid (BlkF.made (B := w.heap.size) w [.string nm, .int .i64 s, .slice A gn gc, .slice B dn dc] 25 (Nat.le_refl _)), (by (repeat (first | (with_reducible refine Below.drew ?_) | (with_reducible refine below_drewN ?_ _) | (with_reducible refine Below.alloc ?_ (by first | omega | (simp; done) | (simp; omega) | (simp at *; omega)) _) | (with_reducible refine Below.setCell ?_ (by first | omega | (simp; done) | (simp; omega) | (simp at *; omega)) _) | (with_reducible exact Below.refl _ _) | (with_reducible assumption) | (with_reducible refine Below.trans ?_ (Below.mono (by assumption) (by first | omega | (simp; done) | (simp; omega) | (simp at *; omega)))))))⟩
  case round =>
    obtain ⟨k, z, hk, rfl, rfl, hzz, hpre, hP, hB⟩ := hrel
    have zb := hB.size
    obtain ⟨c0, c1, c2, c3⟩ := b4 hP.out
    by_cases hkn : k < dn
    · have kn : (k : Int) < (dn : Int) := by omega
      have k0 : ¬ (k : Int) < 0 := by omega
      have hkD : k < D.length := by have := hdn.out; omega
      obtain ⟨lb, lo, rfl, hlt, hR⟩ := (hD.out.below hB).at' hkD
      obtain ⟨f0, _, f2⟩ := le_at hR hkD
      obtain ⟨s9, hs9⟩ : ∃ z, Hid (D[k].s = z) := ⟨_, Lib.hid rfl⟩
      obtain ⟨g9, hg9⟩ : ∃ z, Hid (D[k].g = z) := ⟨_, Lib.hid rfl⟩
      rw [hs9.out] at f0
      rw [hg9.out] at f2
      have b9 := (hok.out.le _ (List.getElem_mem hkD))
      rw [hs9.out] at b9
      have bz := hok.out.sec k
      rw [hzz.out] at bz
      have ww : IntKind.i64.wrap (z + s9) = z + s9 := IntWalk.i64_in _ (by omega)
      have hz2 : Hid (secT D (k + 1) = z + s9) := Lib.hid (by rw [secT_succ hkD, hzz.out, hs9.out])
      clear hR b9 bz
      by_cases hle : t ≤ z + s9
      · have hl : lgN D t = k := lgN_eq hok.out hkD hpre.out (by rw [hz2.out]; exact hle)
        have hr : Hid (g9 = (gk : Int)) := Lib.hid (by
          have h := hg.out
          rw [hl] at h
          rw [← h, ← hg9.out]
          show _ = (D.getD k default).g
          rw [getD_leE hkD])
        clear hl
        go_wp2
        go_ret
        exact ⟨ret_int hr.out, hB⟩
      · have hpre2 : Hid (∀ j, j < k + 1 → secT D (j + 1) < t) := Lib.hid fun j hj => by
          by_cases e : j = k
          · rw [e, hz2.out]; omega
          · exact hpre.out j (by omega)
        go_wp2
        go_roundw
        case rel => exact ⟨k + 1, z + s9, by omega, by go_num, rfl, hz2, hpre2, hP, hB⟩
        case measure => simp [intOf]; omega
    · exfalso
      have h1 := lgN_is hok.out (t := t) (by have := hdn.out; omega) (by rw [← hdn.out]; exact ht.out)
      have h2 := hpre.out (lgN D t) (by have := hdn.out; omega)
      omega
theorem blkF_belowN {u u' : World} {B b N : Nat} {vs : List Value} (h : BlkF u B b vs) (hb : Below N u u') (hlt : b < N) : BlkF u' B b vs :=
  ⟨h.ge, Nat.lt_of_lt_of_le h.lt hb.size, fun i v hv => (hb.cell (p := ⟨b, i, none⟩) hlt).trans (h.at' i v hv), fun j => (hb.frozen (p := ⟨b, j, none⟩) hlt).trans (h.fz j)⟩
set_option maxRecDepth 100000 in
set_option maxHeartbeats 4000000 in
theorem refPoints_is (nm : ByteArray) (s : Int) (G : List Ga) (D : List Le) (A B : Option Addr) (gn gc dn dc : Nat) (w : World) (hgn : Hid (gn = G.length)) (hdn : Hid (dn = D.length)) (hok : Hid (PlnOk nm s G D)) (hG : Hid (SlRows gaV 2 w A G)) (hD : Hid (SlRows leV 3 w B D)) :
    Calls Tryz.prog 65 #[.agg #[.string nm, .int .i64 s, .slice A gn gc, .slice B dn dc]] w fun e w' => ∃ (C : Option Addr) (c : Nat), e = .returned (.slice C (dn + 1) c) ∧ SlRows ptV 2 w' C (ptL D (dn + 1)) ∧ Below w.heap.size w w' := by
  obtain ⟨i0, hi0, hz0', hz1', hz2'⟩ := info_partsG infoPt
  have HI := Lib.hid hi0
  have HZ0 := Lib.hid hz0'
  have HZ1 := Lib.hid hz1'
  have HZ2 := Lib.hid hz2'
  clear hi0 hz0' hz1' hz2'
  have d60 : dn ≤ 60 := by have := hok.out.d6; have := hdn.out; omega
  have HLE := Lib.hid hok.out.le
  have HSEC := Lib.hid hok.out.sec
  have hP0 := Lib.hid ((BlkF.made (B := w.heap.size) w [.string nm, .int .i64 s, .slice A gn gc, .slice B dn dc] 25 (Nat.le_refl _)).below ((Below.refl _ _).alloc (Nat.le_refl _) (.cells #[.int .i64 0, .int .i64 0] 94)))
  have hB0 : Hid (Below w.heap.size w ((w.alloc (.cells #[.string nm, .int .i64 s, .slice A gn gc, .slice B dn dc] 25)).alloc (.cells #[.int .i64 0, .int .i64 0] 94))) := Lib.hid (((Below.refl _ _).alloc (Nat.le_refl _) _).alloc (by simp) _)
  have hrow0 : Hid (rowsV ptV (ptL D (0 + 1)) = [.int .i64 0, .int .i64 0]) := Lib.hid (by simp [ptL, ptK, rowsV, ptV, secT, secs])
  have HO := Lib.hid (own_madeG (base := (w.heap.size + 1)) (w.alloc (.cells #[.string nm, .int .i64 s, .slice A gn gc, .slice B dn dc] 25)) [.int .i64 0, .int .i64 0] 1 2 94 (by simp) rfl (by decide))
  go_enter Tryz.func65, Tryz.ntmps65
  go_wp2
  go_loopw [3, 4] (fun v i wr => ∃ k : Nat, k ≤ dn ∧ i = .int .i64 k ∧ Hid (wr.ownsRow (w.heap.size + 1) 94 2 v (k + 1) (rowsV ptV (ptL D (k + 1)))) ∧ Hid (BlkF wr w.heap.size w.heap.size [.string nm, .int .i64 s, .slice A gn gc, .slice B dn dc]) ∧ Below w.heap.size w wr) (fun _ i _ => dn - (intOf i).toNat)
  case atStart => exact ⟨0, by omega, rfl, Lib.hid (by rw [hrow0.out]; first | exact HO.out | (have := HO.out; simpa using this)), hP0, hB0.out⟩
  case round =>
    clear HO hP0 hB0 hrow0
    obtain ⟨k, hk, rfl, hown, hP, hB⟩ := hrel
    have zb := hB.size
    obtain ⟨A6, c6, hv, hS6, hge6, _, _, _⟩ := SlRows_own (f := ptV) (n := 2) (L := ptL D (k + 1)) (fun _ => rfl) (by rw [ptL_len]; exact hown.out)
    rw [ptL_len] at hv
    subst hv
    obtain ⟨c0, c1, c2, c3⟩ := b4 hP.out
    by_cases hkd : k < dn
    · have kn : (k : Int) < (dn : Int) := by omega
      have k0 : ¬ (k : Int) < 0 := by omega
      have kn1 : (k : Int) < (k : Int) + 1 := by omega
      have hkD : k < D.length := by have := hdn.out; omega
      have hkP : k < (ptL D (k + 1)).length := by rw [ptL_len]; omega
      obtain ⟨lb, lo, rfl, hll0, hR⟩ := hD.out.at' hkD
      obtain ⟨f0', f1', _⟩ := le_at hR hkD
      have f0 := (hB.cell (p := ⟨lb, lo + k * 3, none⟩) hll0).trans f0'
      have f1 := (hB.cell (p := ⟨lb, lo + k * 3 + 1, none⟩) hll0).trans f1'
      obtain ⟨pb, po, hAA, lpb, hPR⟩ := hS6.at' hkP
      subst hAA
      have c9 := (pt_at hPR hkP).1
      obtain ⟨s9, hs9⟩ : ∃ z, Hid (D[k].s = z) := ⟨_, Lib.hid rfl⟩
      obtain ⟨d9, hd9⟩ : ∃ z, Hid (D[k].d = z) := ⟨_, Lib.hid rfl⟩
      obtain ⟨e9, he9⟩ : ∃ z, Hid (secT D k = z) := ⟨_, Lib.hid rfl⟩
      rw [hs9.out] at f0
      rw [hd9.out] at f1
      rw [ptL_at, show (ptK D k).s = secT D k from rfl, he9.out] at c9
      obtain ⟨t9, ht9'⟩ : ∃ z, Hid (e9 + s9 = z) := ⟨_, Lib.hid rfl⟩
      have ht9 : Hid (secT D k + s9 = t9) := Lib.hid (by rw [he9.out]; exact ht9'.out)
      have e0 : 0 ≤ e9 ∧ e9 ≤ 1000000 := by have := HSEC.out k; rw [he9.out] at this; exact this
      have s0 : 1 ≤ s9 ∧ s9 ≤ 1000000 := by have := HLE.out _ (List.getElem_mem hkD); rw [← hs9.out]; exact ⟨this.1, this.2.1⟩
      have hw9 : IntKind.i64.wrap (e9 + s9) = t9 := by rw [IntWalk.i64_in _ (by omega)]; exact ht9'.out
      have lP := hP.out.lt
      have hll : lb < wr.heap.size := by omega
      have hN1 : (w.heap.size + 1) ≤ wr.heap.size := by omega
      have HOW : Hid (∀ y, Below wr.heap.size wr y → y.ownsRow (w.heap.size + 1) 94 2 (.slice (some ⟨pb, po, none⟩) (k + 1) c6) (k + 1) (rowsV ptV (ptL D (k + 1)))) := Lib.hid fun y hy => own_belowG hown.out hy (Nat.le_refl _)
      have HS : Hid (∀ y, Below wr.heap.size wr y → y.cell? ⟨w.heap.size, 0, none⟩ = some (.string nm) ∧ y.cell? ⟨w.heap.size, 1, none⟩ = some (.int .i64 s) ∧ y.cell? ⟨w.heap.size, 2, none⟩ = some (.slice A gn gc) ∧ y.cell? ⟨w.heap.size, 3, none⟩ = some (.slice (some ⟨lb, lo, none⟩) dn dc) ∧ y.cell? ⟨lb, lo + k * 3, none⟩ = some (.int .i64 s9) ∧ y.cell? ⟨lb, lo + k * 3 + 1, none⟩ = some (.int .i64 d9)) := Lib.hid fun y hy => ⟨(hy.cell (p := ⟨w.heap.size, 0, none⟩) lP).trans c0, (hy.cell (p := ⟨w.heap.size, 1, none⟩) lP).trans c1, (hy.cell (p := ⟨w.heap.size, 2, none⟩) lP).trans c2, (hy.cell (p := ⟨w.heap.size, 3, none⟩) lP).trans c3, (hy.cell (p := ⟨lb, lo + k * 3, none⟩) hll).trans f0, (hy.cell (p := ⟨lb, lo + k * 3 + 1, none⟩) hll).trans f1⟩
      have HSN : Hid (∀ y, Below (w.heap.size + 1) wr y → y.cell? ⟨w.heap.size, 0, none⟩ = some (.string nm) ∧ y.cell? ⟨w.heap.size, 1, none⟩ = some (.int .i64 s) ∧ y.cell? ⟨w.heap.size, 2, none⟩ = some (.slice A gn gc) ∧ y.cell? ⟨w.heap.size, 3, none⟩ = some (.slice (some ⟨lb, lo, none⟩) dn dc) ∧ y.cell? ⟨lb, lo + k * 3, none⟩ = some (.int .i64 s9) ∧ y.cell? ⟨lb, lo + k * 3 + 1, none⟩ = some (.int .i64 d9)) := Lib.hid fun y hy => ⟨(hy.cell (p := ⟨w.heap.size, 0, none⟩) (show w.heap.size < (w.heap.size + 1) by omega)).trans c0, (hy.cell (p := ⟨w.heap.size, 1, none⟩) (show w.heap.size < (w.heap.size + 1) by omega)).trans c1, (hy.cell (p := ⟨w.heap.size, 2, none⟩) (show w.heap.size < (w.heap.size + 1) by omega)).trans c2, (hy.cell (p := ⟨w.heap.size, 3, none⟩) (show w.heap.size < (w.heap.size + 1) by omega)).trans c3, (hy.cell (p := ⟨lb, lo + k * 3, none⟩) (show lb < (w.heap.size + 1) by omega)).trans f0, (hy.cell (p := ⟨lb, lo + k * 3 + 1, none⟩) (show lb < (w.heap.size + 1) by omega)).trans f1⟩
      clear hR hPR hown hS6 hge6 f0 f1 f0' f1'
      go_upto_region 5 with (fail)
      refine wp_region_held_drew (S := (fun w' => w'.cell? ⟨w.heap.size, 0, none⟩ = some (.string nm) ∧ w'.cell? ⟨w.heap.size, 1, none⟩ = some (.int .i64 s) ∧ w'.cell? ⟨w.heap.size, 2, none⟩ = some (.slice A gn gc) ∧ w'.cell? ⟨w.heap.size, 3, none⟩ = some (.slice (some ⟨lb, lo, none⟩) dn dc) ∧ w'.cell? ⟨lb, lo + k * 3, none⟩ = some (.int .i64 s9) ∧ w'.cell? ⟨lb, lo + k * 3 + 1, none⟩ = some (.int .i64 d9))) (by kernel_rfl) (HS.out _ (Below.refl _ _).drew) (fun hHeld => ?_)
      have hT0 : Below wr.heap.size wr wr.drew := (Below.refl _ _).drew
      generalize hdr : wr.drew = v0 at *
      clear hdr
      refine tkH 0 ⟨some 14, _, _, _, _, _⟩ ?_ rfl ?_ (by assumption) ?_
      rotate_left
      · (intro w hSw; (try dsimp only at hSw); go_simp; all_goals with_reducible rfl)
      try simp only [Act.put, sA, sB, sC]
      refine tkH 1 ⟨some 15, _, _, _, _, _⟩ ?_ rfl ?_ (by assumption) ?_
      rotate_left
      · (intro w hSw; (try dsimp only at hSw); go_simp; all_goals with_reducible rfl)
      try simp only [Act.put, sA, sB, sC]
      refine tkH 2 ⟨some 16, _, _, _, _, _⟩ ?_ rfl ?_ (by assumption) ?_
      rotate_left
      · (intro w hSw; (try dsimp only at hSw); go_simp; all_goals with_reducible rfl)
      try simp only [Act.put, sA, sB, sC]
      refine tkH 3 ⟨some 17, _, _, _, _, _⟩ ?_ rfl ?_ (by assumption) ?_
      rotate_left
      · (intro w hSw; (try dsimp only at hSw); go_simp; all_goals with_reducible rfl)
      try simp only [Act.put, sA, sB, sC]
      refine tkH 4 ⟨some 18, _, _, _, _, _⟩ ?_ rfl ?_ (by assumption) ?_
      rotate_left
      · (intro w hSw; (try dsimp only at hSw); go_simp; all_goals with_reducible rfl)
      try simp only [Act.put, sA, sB, sC]
      refine tkH 6 ⟨some 20, _, _, _, _, _⟩ ?_ rfl ?_ (by assumption) ?_
      rotate_left
      · (intro w hSw; (try dsimp only at hSw); go_simp; all_goals with_reducible rfl)
      try simp only [Act.put, sA, sB, sC]
      refine tkH 7 ⟨some 21, _, _, _, _, _⟩ ?_ rfl ?_ (by assumption) ?_
      rotate_left
      · (intro w hSw; (try dsimp only at hSw); go_simp; all_goals with_reducible rfl)
      try simp only [Act.put, sA, sB, sC]
      refine tkH 8 ⟨some 22, _, _, _, _, _⟩ ?_ rfl ?_ (by assumption) ?_
      rotate_left
      · (intro w hSw; (try dsimp only at hSw); go_simp; all_goals with_reducible rfl)
      try simp only [Act.put, sA, sB, sC]
      refine tkH 9 ⟨some 23, _, _, _, _, _⟩ ?_ rfl ?_ (by assumption) ?_
      rotate_left
      · (intro w hSw; (try dsimp only at hSw); go_simp; all_goals with_reducible rfl)
      try simp only [Act.put, sA, sB, sC]
      refine tkH 10 ⟨some 24, _, _, _, _, _⟩ ?_ rfl ?_ (by assumption) ?_
      rotate_left
      · (intro w hSw; (try dsimp only at hSw); go_simp; all_goals with_reducible rfl)
      try simp only [Act.put, sA, sB, sC]
      refine tkH 11 ⟨some 25, _, _, _, _, _⟩ ?_ rfl ?_ (by assumption) ?_
      rotate_left
      · (intro w hSw; (try dsimp only at hSw); go_simp; all_goals with_reducible rfl)
      try simp only [Act.put, sA, sB, sC]
      refine tkH 13 ⟨some 27, _, _, _, _, _⟩ ?_ rfl ?_ (by assumption) ?_
      rotate_left
      · (intro w hSw; (try dsimp only at hSw); go_simp; all_goals with_reducible rfl)
      try simp only [Act.put, sA, sB, sC]
      refine tkH 14 ⟨some 28, _, _, _, _, _⟩ ?_ rfl ?_ (by assumption) ?_
      rotate_left
      · (intro w hSw; (try dsimp only at hSw); go_simp; all_goals with_reducible rfl)
      try simp only [Act.put, sA, sB, sC]
      refine tkH 15 ⟨some 29, _, _, _, _, _⟩ ?_ rfl ?_ (by assumption) ?_
      rotate_left
      · (intro w hSw; (try dsimp only at hSw); go_simp; all_goals with_reducible rfl)
      try simp only [Act.put, sA, sB, sC]
      refine tkH 16 ⟨some 30, _, _, _, _, _⟩ ?_ rfl ?_ (by assumption) ?_
      rotate_left
      · (intro w hSw; (try dsimp only at hSw); go_simp; all_goals with_reducible rfl)
      try simp only [Act.put, sA, sB, sC]
      refine tkH 17 ⟨some 31, _, _, _, _, _⟩ ?_ rfl ?_ (by assumption) ?_
      rotate_left
      · (intro w hSw; (try dsimp only at hSw); go_simp; all_goals with_reducible rfl)
      try simp only [Act.put, sA, sB, sC]
      refine tkH 18 ⟨some 32, _, _, _, _, _⟩ ?_ rfl ?_ (by assumption) ?_
      rotate_left
      · (intro w hSw; (try dsimp only at hSw); go_simp; all_goals with_reducible rfl)
      try simp only [Act.put, sA, sB, sC]
      refine wpAnyH_ready (rs := [5]) (by kernel_rfl) (by simp) ?_
      refine AllReadyH.cons rfl (fun K hK => ?_) (AllReadyH.nil)
      have cl : v0.cell? ⟨pb, po + k * 2, none⟩ = some (.int .i64 e9) := (hT0.cell (p := ⟨pb, po + k * 2, none⟩) lpb).trans c9
      go_simp
      go_wp2_with fail
      refine hK.out _ _ (HS.out _ hT0) (fun hHeld => ?_)
      clear hK K
      try simp only [Act.put, sA, sB, sC]
      clear cl
      obtain ⟨v1, rfl⟩ : ∃ z, z = v0 := ⟨_, rfl⟩
      have hT1 := hT0
      refine tkH 12 ⟨some 26, _, _, _, _, _⟩ ?_ rfl ?_ (by assumption) ?_
      rotate_left
      · (intro w hSw; (try dsimp only at hSw); go_simp; all_goals with_reducible rfl)
      try simp only [Act.put, sA, sB, sC]
      refine tkH 19 ⟨some 33, _, _, _, _, _⟩ ?_ rfl ?_ (by assumption) ?_
      rotate_left
      · (intro w hSw; (try dsimp only at hSw); go_simp; all_goals with_reducible rfl)
      try simp only [Act.put, sA, sB, sC]
      refine wpAnyH_ready (rs := [20]) (by kernel_rfl) (by simp) ?_
      refine AllReadyH.cons rfl (fun K hK => ?_) (AllReadyH.nil)
      go_simp
      go_wp2_with fail
      refine hK.out _ _ (HS.out _ (hT1.alloc hT1.size _)) (fun hHeld => ?_)
      clear hK K
      try simp only [Act.put, sA, sB, sC]
      have HNb9 := Lib.hid (BlkF.made (B := wr.heap.size) v1 [.int .i64 t9, .int .i64 d9] 94 hT1.size)
      have hbv1 : Below v1.heap.size v1 (v1.alloc (.cells #[.int .i64 t9, .int .i64 d9] 94)) := (Below.refl _ _).alloc (Nat.le_refl _) _
      have hnb9 : wr.heap.size ≤ v1.heap.size := hT1.size
      have exb9 : ∃ x, v1.heap.size = x := ⟨_, rfl⟩
      generalize hq1 : v1.alloc (.cells #[.int .i64 t9, .int .i64 d9] 94) = v2 at *
      have hT2 : Below wr.heap.size wr v2 := hT1.trans (hbv1.mono hT1.size)
      obtain ⟨b9, eb9⟩ := exb9
      rw [eb9] at HNb9 hnb9 ⊢
      clear hbv1 hq1
      refine wpAnyH_ready (rs := [21]) (by kernel_rfl) (by simp) ?_
      refine AllReadyH.cons rfl (fun K hK => ?_) (AllReadyH.nil)
      rw [if_pos (by kernel_rfl)]
      refine oper_append_slG _ _ 68 rfl (w.heap.size + 1) 94 i0 (.agg #[.int .i64 0, .int .i64 0]) 2 16 Tryz.underlying68 HI.out HZ0.out HZ1.out HZ2.out rfl (by decide) (.slice (some ⟨pb, po, none⟩) (k + 1) c6) (k + 1) (rowsV ptV (ptL D (k + 1))) rfl (HOW.out _ hT2) (some ⟨b9, 0, none⟩) 1 1 [.int .i64 t9, .int .i64 d9] rfl (fun h => by cases h) rfl (fun ad had j v hj => by cases had; rw [addNR, Nat.zero_add]; exact HNb9.out.at' j v hj) (by intro v hv; simp at hv; rcases hv with rfl | rfl <;> rfl) ?d1 ?d2 (by have := (hB.trans (hT2.mono hB.size)).size; have := hT2.size; omega) ?_
      case d1 => unfold maxLen; omega
      case d2 => omega
      intro rv v3 hown hgrow hblk
      have hX : Below (w.heap.size + 1) wr v3 := (hT2.mono hN1).grown hgrow (by have := hT2.size; omega) (fun r hr => (own_blockG (HOW.out _ hT2) r hr).1)
      have hS9 : v3.cell? ⟨w.heap.size, 0, none⟩ = some (.string nm) ∧ v3.cell? ⟨w.heap.size, 1, none⟩ = some (.int .i64 s) ∧ v3.cell? ⟨w.heap.size, 2, none⟩ = some (.slice A gn gc) ∧ v3.cell? ⟨w.heap.size, 3, none⟩ = some (.slice (some ⟨lb, lo, none⟩) dn dc) ∧ v3.cell? ⟨lb, lo + k * 3, none⟩ = some (.int .i64 s9) ∧ v3.cell? ⟨lb, lo + k * 3 + 1, none⟩ = some (.int .i64 d9) := HSN.out _ hX
      refine hK.out _ _ hS9 (fun hHeld => ?_)
      clear hK K hS9
      try simp only [Act.put, sA, sB, sC]
      refine tkH 22 ⟨some 3, _, _, _, _, _⟩ ?_ rfl ?_ (by assumption) ?_
      rotate_left
      · (intro w hSw; (try dsimp only at hSw); go_simp; all_goals with_reducible rfl)
      try simp only [Act.put, sA, sB, sC]
      refine wpAnyH_done (by kernel_rfl) ?_ _
      have HOWN := Lib.hid hown
      have HX := Lib.hid hX
      have HP2 := Lib.hid (blkF_belowN hP.out hX (by omega))
      clear hown hgrow hblk HNb9 hHeld HOW HS HSN hP hX
      have hBz := hB.trans (HX.out.mono (by omega))
      have hzz := HX.out.size
      go_wp2
      go_roundw
      case rel => exact ⟨k + 1, by omega, by go_num, Lib.hid (by rw [ptL_succ D (k + 1), rowsV_appG, ptK_succ hkD, hs9.out, hd9.out, ht9.out]; exact HOWN.out), HP2, hBz⟩
      case measure => simp [intOf]; omega
    · have kn : ¬ (k : Int) < (dn : Int) := by omega
      obtain rfl : k = dn := by omega
      have HS6 := Lib.hid hS6
      clear hS6 hown
      go_wp2
      go_ret
      first | exact ⟨A6, c6, rfl, HS6.out, hB⟩ | exact ⟨A6, ⟨c6, rfl⟩, HS6.out, hB⟩
set_option maxRecDepth 100000 in
set_option maxHeartbeats 4000000 in
theorem refAt_is (nm : ByteArray) (s : Int) (G : List Ga) (D : List Le) (A : Option Addr) (dn n cap k : Nat) (t n9 q9 : Int) (w : World) (hdn : Hid (dn = D.length)) (hn : n = dn + 1) (hok : Hid (PlnOk nm s G D)) (hP : Hid (SlRows ptV 2 w A (ptL D (dn + 1)))) (hk : k < dn) (hpre : Hid (∀ j, j < k → secT D (j + 1) < t)) (hbeg : Hid (secT D k ≤ t)) (hend : Hid (t ≤ secT D (k + 1)))
    (hn9 : Hid ((legK s G D k).bd * (legK s G D k).s + ((legK s G D k).d - (legK s G D k).bd) * (t - secT D k) = n9)) (hq9 : Hid ((legK s G D k).s = q9)) :
    Calls Tryz.prog 91 #[.slice A n cap, .int .i64 t] w fun e w' => e = .returned (.tuple #[.int .i64 n9, .int .i64 q9]) ∧ Below w.heap.size w w' := by
  have d60 : dn ≤ 60 := by have := hok.out.d6; have := hdn.out; omega
  subst hn
  go_enter Tryz.func91, Tryz.ntmps91
  go_wp2
  go_loopw [6] (fun i wr => ∃ m : Nat, m ≤ k ∧ i = .int .i64 ((m : Int) + 1) ∧ Below w.heap.size w wr) (fun i _ => dn + 1 - (intOf i).toNat)
  case atStart => exact ⟨0, by omega, rfl, Below.refl _ _⟩
  case round =>
    obtain ⟨m, hm, rfl, hB⟩ := hrel
    have zb := hB.size
    have hmP : m + 1 < (ptL D (dn + 1)).length := by rw [ptL_len]; omega
    obtain ⟨pb, po, rfl, lpb0, hPR⟩ := hP.out.at' hmP
    have hmD : m < D.length := by have := hdn.out; omega
    have lpb : pb < wr.heap.size := by omega
    have tm : ((m : Int) + 1).toNat = m + 1 := by omega
    have m0 : ¬ (m : Int) + 1 < 0 := by omega
    have m00 : 0 ≤ (m : Int) + 1 := by omega
    have m1 : (m : Int) + 1 < (dn : Int) + 1 := by omega
    have m2 : (m : Int) < (dn : Int) := by omega
    have hwm : IntKind.i64.wrap ((m : Int) + 1 + 1) = (m : Int) + 1 + 1 := IntWalk.i64_in _ (by omega)
    by_cases hmk : m < k
    · have p0 := (hB.cell (p := ⟨pb, po + (m + 1) * 2, none⟩) lpb0).trans (pt_at hPR hmP).1
      rw [ptL_at, show (ptK D (m + 1)).s = secT D (m + 1) from rfl] at p0
      obtain ⟨e9, he9⟩ : ∃ z, Hid (secT D (m + 1) = z) := ⟨_, Lib.hid rfl⟩
      have hlt := hpre.out m hmk
      rw [he9.out] at p0 hlt
      have hle : ¬ t ≤ e9 := by omega
      clear hPR
      go_wp2
      go_roundw
      case rel => exact ⟨m + 1, by omega, by go_num, hB⟩
      case measure => simp [intOf]; omega
    · obtain rfl : m = k := by omega
      have hkP : m < (ptL D (dn + 1)).length := by rw [ptL_len]; omega
      obtain ⟨a0, a1⟩ := pt_at hPR hkP
      obtain ⟨p0, p1⟩ := pt_at hPR hmP
      rw [ptL_at] at a0 a1 p0 p1
      rw [ptK_succ hmD] at p0 p1
      have hy := legK_ok hok.out hmD
      have e1 : (ptK D m).s = secT D m := rfl
      have e2 : (ptK D m).d = (legK s G D m).bd := rfl
      have e3 : D[m].s = (legK s G D m).s := by show _ = (D.getD m default).s; rw [getD_leE hmD]
      have e4 : D[m].d = (legK s G D m).d := by show _ = (D.getD m default).d; rw [getD_leE hmD]
      have hend2 := hend.out
      rw [secT_succ hmD] at hend2
      rw [e1] at a0
      rw [e2] at a1
      rw [e3] at p0 hend2
      rw [e4] at p1
      have hs := hy.s
      have hbd := hy.bd
      have hd := hy.d
      have hbs := hy.bs
      have e5 : (legK s G D m).bs = secT D m := rfl
      rw [e5] at hbs
      have hbeg2 := hbeg.out
      have hnn := hn9.out
      have hqq := hq9.out
      rw [hqq] at p0 hend2 hs hnn
      obtain ⟨bs9, hb9⟩ : ∃ z, Hid (secT D m = z) := ⟨_, Lib.hid rfl⟩
      obtain ⟨bd9, hbd9⟩ : ∃ z, Hid ((legK s G D m).bd = z) := ⟨_, Lib.hid rfl⟩
      obtain ⟨d9, hd9⟩ : ∃ z, Hid ((legK s G D m).d = z) := ⟨_, Lib.hid rfl⟩
      rw [hb9.out] at a0 p0 hbeg2 hend2 hnn hbs
      rw [hbd9.out] at a1 hbd hnn
      rw [hd9.out] at p1 hd hnn
      obtain ⟨e9, he9⟩ : ∃ z, Hid (bs9 + q9 = z) := ⟨_, Lib.hid rfl⟩
      have he9' := he9.out
      rw [he9'] at p0 hend2
      have a0' := (hB.cell (p := ⟨pb, po + m * 2, none⟩) lpb0).trans a0
      have a1' := (hB.cell (p := ⟨pb, po + m * 2 + 1, none⟩) lpb0).trans a1
      have p0' := (hB.cell (p := ⟨pb, po + (m + 1) * 2, none⟩) lpb0).trans p0
      have p1' := (hB.cell (p := ⟨pb, po + (m + 1) * 2 + 1, none⟩) lpb0).trans p1
      have w1 : IntKind.i64.wrap ((m : Int) + 1 - 1) = (m : Int) := by rw [IntWalk.i64_in _ (by omega)]; omega
      have w0 : IntKind.i64.wrap (m : Int) = (m : Int) := IntWalk.i64_in _ (by omega)
      have k00 : ¬ (m : Int) < 0 := by omega
      have m3 : (m : Int) < (dn : Int) + 1 := by omega
      have w2 : IntKind.i64.wrap (e9 - bs9) = q9 := by rw [IntWalk.i64_in _ (by omega)]; omega
      have ma := mul_bd hbd.1 hbd.2 (show 0 ≤ q9 by omega) hs.2
      have mb1 : -(30000 * 1000000) ≤ (d9 - bd9) * (t - bs9) ∧ (d9 - bd9) * (t - bs9) ≤ 30000 * 1000000 := by
        have h1 := mul_bd hd.1 hd.2 (show 0 ≤ t - bs9 by omega) (show t - bs9 ≤ 1000000 by omega)
        have h2 := mul_bd hbd.1 hbd.2 (show 0 ≤ t - bs9 by omega) (show t - bs9 ≤ 1000000 by omega)
        rw [Int.sub_mul]
        omega
      have w3 : IntKind.i64.wrap (bd9 * q9) = bd9 * q9 := IntWalk.i64_in _ (by omega)
      have w4 : IntKind.i64.wrap (d9 - bd9) = d9 - bd9 := IntWalk.i64_in _ (by omega)
      have w5 : IntKind.i64.wrap (t - bs9) = t - bs9 := IntWalk.i64_in _ (by omega)
      have w6 : IntKind.i64.wrap ((d9 - bd9) * (t - bs9)) = (d9 - bd9) * (t - bs9) := IntWalk.i64_in _ (by omega)
      have w7 : IntKind.i64.wrap (bd9 * q9 + (d9 - bd9) * (t - bs9)) = n9 := by rw [IntWalk.i64_in _ (by omega)]; exact hnn
      have HS : Hid (∀ y, Below wr.heap.size wr y → y.cell? ⟨pb, po + m * 2, none⟩ = some (.int .i64 bs9) ∧ y.cell? ⟨pb, po + m * 2 + 1, none⟩ = some (.int .i64 bd9) ∧ y.cell? ⟨pb, po + (m + 1) * 2, none⟩ = some (.int .i64 e9) ∧ y.cell? ⟨pb, po + (m + 1) * 2 + 1, none⟩ = some (.int .i64 d9)) := Lib.hid fun y hy => ⟨(hy.cell (p := ⟨pb, po + m * 2, none⟩) lpb).trans a0', (hy.cell (p := ⟨pb, po + m * 2 + 1, none⟩) lpb).trans a1', (hy.cell (p := ⟨pb, po + (m + 1) * 2, none⟩) lpb).trans p0', (hy.cell (p := ⟨pb, po + (m + 1) * 2 + 1, none⟩) lpb).trans p1'⟩
      clear hPR a0 a1 p0 p1 a0' a1' hy e1 e2 e3 e4 e5 hnn hqq he9' ma mb1 p1' hs hbd hd hbs hbeg2
      go_upto_region 5 with (fail)
      refine wp_region_held_drew (S := (fun w' => w'.cell? ⟨pb, po + m * 2, none⟩ = some (.int .i64 bs9) ∧ w'.cell? ⟨pb, po + m * 2 + 1, none⟩ = some (.int .i64 bd9) ∧ w'.cell? ⟨pb, po + (m + 1) * 2, none⟩ = some (.int .i64 e9) ∧ w'.cell? ⟨pb, po + (m + 1) * 2 + 1, none⟩ = some (.int .i64 d9))) (by kernel_rfl) (HS.out _ (Below.refl _ _).drew) (fun hHeld => ?_)
      have hT0 : Below wr.heap.size wr wr.drew := (Below.refl _ _).drew
      generalize hdr : wr.drew = y0 at *
      clear hdr
      refine tkH 0 ⟨some 22, _, _, _, _, _⟩ ?_ rfl ?_ (by assumption) ?_
      rotate_left
      · (intro w hSw; (try dsimp only at hSw); go_simp; all_goals with_reducible rfl)
      try simp only [Act.put, sA, sB, sC]
      refine tkH 1 ⟨some 23, _, _, _, _, _⟩ ?_ rfl ?_ (by assumption) ?_
      rotate_left
      · (intro w hSw; (try dsimp only at hSw); go_simp; all_goals with_reducible rfl)
      try simp only [Act.put, sA, sB, sC]
      refine tkH 2 ⟨some 24, _, _, _, _, _⟩ ?_ rfl ?_ (by assumption) ?_
      rotate_left
      · (intro w hSw; (try dsimp only at hSw); go_simp; all_goals with_reducible rfl)
      try simp only [Act.put, sA, sB, sC]
      refine tkH 3 ⟨some 25, _, _, _, _, _⟩ ?_ rfl ?_ (by assumption) ?_
      rotate_left
      · (intro w hSw; (try dsimp only at hSw); go_simp; all_goals with_reducible rfl)
      try simp only [Act.put, sA, sB, sC]
      refine tkH 4 ⟨some 26, _, _, _, _, _⟩ ?_ rfl ?_ (by assumption) ?_
      rotate_left
      · (intro w hSw; (try dsimp only at hSw); go_simp; all_goals with_reducible rfl)
      try simp only [Act.put, sA, sB, sC]
      refine tkH 5 ⟨some 27, _, _, _, _, _⟩ ?_ rfl ?_ (by assumption) ?_
      rotate_left
      · (intro w hSw; (try dsimp only at hSw); go_simp; all_goals with_reducible rfl)
      try simp only [Act.put, sA, sB, sC]
      refine tkH 6 ⟨some 28, _, _, _, _, _⟩ ?_ rfl ?_ (by assumption) ?_
      rotate_left
      · (intro w hSw; (try dsimp only at hSw); go_simp; all_goals with_reducible rfl)
      try simp only [Act.put, sA, sB, sC]
      refine tkH 7 ⟨some 29, _, _, _, _, _⟩ ?_ rfl ?_ (by assumption) ?_
      rotate_left
      · (intro w hSw; (try dsimp only at hSw); go_simp; all_goals with_reducible rfl)
      try simp only [Act.put, sA, sB, sC]
      refine tkH 8 ⟨some 30, _, _, _, _, _⟩ ?_ rfl ?_ (by assumption) ?_
      rotate_left
      · (intro w hSw; (try dsimp only at hSw); go_simp; all_goals with_reducible rfl)
      try simp only [Act.put, sA, sB, sC]
      refine wpAnyH_ready (rs := [9, 10]) (by kernel_rfl) (by simp) ?_
      refine AllReadyH.cons rfl (fun K hK => ?_) (AllReadyH.cons rfl (fun K hK => ?_) (AllReadyH.nil))
      · skip
        go_simp
        go_wp2_with fail
        refine hK.out _ _ (HS.out _ (hT0.alloc hT0.size _)) (fun hHeld => ?_)
        clear hK K
        try simp only [Act.put, sA, sB, sC]
        have HNb7 := Lib.hid (BlkF.made (B := wr.heap.size) y0 [.int .i64 0, .int .i64 0] 94 hT0.size)
        have hby0 : Below y0.heap.size y0 (y0.alloc (.cells #[.int .i64 0, .int .i64 0] 94)) := (Below.refl _ _).alloc (Nat.le_refl _) _
        have hnb7 : wr.heap.size ≤ y0.heap.size := hT0.size
        have exb7 : ∃ x, y0.heap.size = x := ⟨_, rfl⟩
        generalize hq0 : y0.alloc (.cells #[.int .i64 0, .int .i64 0] 94) = y1 at *
        have hT1 : Below wr.heap.size wr y1 := hT0.trans (hby0.mono hT0.size)
        obtain ⟨b7, eb7⟩ := exb7
        rw [eb7] at HNb7 hnb7 ⊢
        clear hby0 hq0
        refine wpAnyH_ready (rs := [10]) (by kernel_rfl) (by simp) ?_
        refine AllReadyH.cons rfl (fun K hK => ?_) (AllReadyH.nil)
        go_simp
        go_wp2_with fail
        refine hK.out _ _ (HS.out _ (hT1.alloc hT1.size _)) (fun hHeld => ?_)
        clear hK K
        try simp only [Act.put, sA, sB, sC]
        have HNb8 := Lib.hid (BlkF.made (B := wr.heap.size) y1 [.int .i64 0, .int .i64 0] 94 hT1.size)
        have hby1 : Below y1.heap.size y1 (y1.alloc (.cells #[.int .i64 0, .int .i64 0] 94)) := (Below.refl _ _).alloc (Nat.le_refl _) _
        have hdb8b7 : b7 < y1.heap.size := HNb7.out.lt
        replace HNb7 := Lib.hid (HNb7.out.below hby1)
        have hnb8 : wr.heap.size ≤ y1.heap.size := hT1.size
        have exb8 : ∃ x, y1.heap.size = x := ⟨_, rfl⟩
        generalize hq1 : y1.alloc (.cells #[.int .i64 0, .int .i64 0] 94) = y2 at *
        have hT2 : Below wr.heap.size wr y2 := hT1.trans (hby1.mono hT1.size)
        obtain ⟨b8, eb8⟩ := exb8
        rw [eb8] at HNb8 hnb8 ⊢
        clear hby1 hq1
        rw [eb8] at hdb8b7
        refine wpAnyH_ready (rs := [11]) (by kernel_rfl) (by simp) ?_
        refine AllReadyH.cons rfl (fun K hK => ?_) (AllReadyH.nil)
        have HBs : Hid (BlkF ((y2.setCell ⟨b7, 0, none⟩ (.int .i64 bs9)).setCell ⟨b7, 1, none⟩ (.int .i64 bd9)) wr.heap.size b7 [.int .i64 bs9, .int .i64 bd9]) := Lib.hid (BlkF.st (vs' := [.int .i64 bs9, .int .i64 bd9]) HNb7.out rfl)
        have hTs : Below wr.heap.size wr ((y2.setCell ⟨b7, 0, none⟩ (.int .i64 bs9)).setCell ⟨b7, 1, none⟩ (.int .i64 bd9)) := stW_below HNb7.out.ge [.int .i64 bs9, .int .i64 bd9] y2 0 hT2
        obtain ⟨u_0, u_1⟩ := b2 HNb7.out
        have u_f := HNb7.out.fz
        go_simp
        go_wp2_with fail
        refine hK.out _ _ (HS.out _ hTs) (fun hHeld => ?_)
        clear hK K
        try simp only [Act.put, sA, sB, sC]
        clear u_f u_0 u_1
        have H2HNb8 : Hid (BlkF ((y2.setCell ⟨b7, 0, none⟩ (.int .i64 bs9)).setCell ⟨b7, 1, none⟩ (.int .i64 bd9)) wr.heap.size b8 _) := Lib.hid (HNb8.out.other (c := b7) (i := 0) (l := [.int .i64 bs9, .int .i64 bd9]) (by have := HNb8.out.lt; omega))
        clear HNb7
        generalize hs2 : ((y2.setCell ⟨b7, 0, none⟩ (.int .i64 bs9)).setCell ⟨b7, 1, none⟩ (.int .i64 bd9)) = y3 at *
        clear hs2
        have hT3 := hTs
        clear hTs
        have HNb7 := HBs
        clear HBs
        replace HNb8 := H2HNb8
        refine wpAnyH_ready (rs := [12]) (by kernel_rfl) (by simp) ?_
        refine AllReadyH.cons rfl (fun K hK => ?_) (AllReadyH.nil)
        have HBs : Hid (BlkF ((y3.setCell ⟨b8, 0, none⟩ (.int .i64 e9)).setCell ⟨b8, 1, none⟩ (.int .i64 d9)) wr.heap.size b8 [.int .i64 e9, .int .i64 d9]) := Lib.hid (BlkF.st (vs' := [.int .i64 e9, .int .i64 d9]) HNb8.out rfl)
        have hTs : Below wr.heap.size wr ((y3.setCell ⟨b8, 0, none⟩ (.int .i64 e9)).setCell ⟨b8, 1, none⟩ (.int .i64 d9)) := stW_below HNb8.out.ge [.int .i64 e9, .int .i64 d9] y3 0 hT3
        obtain ⟨u_0, u_1⟩ := b2 HNb8.out
        have u_f := HNb8.out.fz
        go_simp
        go_wp2_with fail
        refine hK.out _ _ (HS.out _ hTs) (fun hHeld => ?_)
        clear hK K
        try simp only [Act.put, sA, sB, sC]
        clear u_f u_0 u_1
        have H2HNb7 : Hid (BlkF ((y3.setCell ⟨b8, 0, none⟩ (.int .i64 e9)).setCell ⟨b8, 1, none⟩ (.int .i64 d9)) wr.heap.size b7 _) := Lib.hid (HNb7.out.other (c := b8) (i := 0) (l := [.int .i64 e9, .int .i64 d9]) (by have := HNb7.out.lt; omega))
        clear HNb8
        generalize hs3 : ((y3.setCell ⟨b8, 0, none⟩ (.int .i64 e9)).setCell ⟨b8, 1, none⟩ (.int .i64 d9)) = y4 at *
        clear hs3
        have hT4 := hTs
        clear hTs
        have HNb8 := HBs
        clear HBs
        replace HNb7 := H2HNb7
        refine wpAnyH_done (by kernel_rfl) ?_ _
        clear hHeld HS
        obtain ⟨u, rfl⟩ : ∃ z, z = y4 := ⟨_, rfl⟩
        have hTu := hT4
        have HNa := HNb7
        have HNb := HNb8
        obtain ⟨x0, x1⟩ := b2 HNa.out
        obtain ⟨x2, x3⟩ := b2 HNb.out
        go_wp2_with fail
        go_quiet (fail)
        go_wp2
        go_ret2
        first | exact ⟨rfl, below_drewN (hB.trans (hTu.mono hB.size)) _⟩ | exact ⟨rfl, hB.trans (hTu.mono hB.size)⟩
      · skip
        go_simp
        go_wp2_with fail
        refine hK.out _ _ (HS.out _ (hT0.alloc hT0.size _)) (fun hHeld => ?_)
        clear hK K
        try simp only [Act.put, sA, sB, sC]
        have HNb8 := Lib.hid (BlkF.made (B := wr.heap.size) y0 [.int .i64 0, .int .i64 0] 94 hT0.size)
        have hby0 : Below y0.heap.size y0 (y0.alloc (.cells #[.int .i64 0, .int .i64 0] 94)) := (Below.refl _ _).alloc (Nat.le_refl _) _
        have hnb8 : wr.heap.size ≤ y0.heap.size := hT0.size
        have exb8 : ∃ x, y0.heap.size = x := ⟨_, rfl⟩
        generalize hq0 : y0.alloc (.cells #[.int .i64 0, .int .i64 0] 94) = y1 at *
        have hT1 : Below wr.heap.size wr y1 := hT0.trans (hby0.mono hT0.size)
        obtain ⟨b8, eb8⟩ := exb8
        rw [eb8] at HNb8 hnb8 ⊢
        clear hby0 hq0
        refine wpAnyH_ready (rs := [9]) (by kernel_rfl) (by simp) ?_
        refine AllReadyH.cons rfl (fun K hK => ?_) (AllReadyH.nil)
        go_simp
        go_wp2_with fail
        refine hK.out _ _ (HS.out _ (hT1.alloc hT1.size _)) (fun hHeld => ?_)
        clear hK K
        try simp only [Act.put, sA, sB, sC]
        have HNb7 := Lib.hid (BlkF.made (B := wr.heap.size) y1 [.int .i64 0, .int .i64 0] 94 hT1.size)
        have hby1 : Below y1.heap.size y1 (y1.alloc (.cells #[.int .i64 0, .int .i64 0] 94)) := (Below.refl _ _).alloc (Nat.le_refl _) _
        have hdb7b8 : b8 < y1.heap.size := HNb8.out.lt
        replace HNb8 := Lib.hid (HNb8.out.below hby1)
        have hnb7 : wr.heap.size ≤ y1.heap.size := hT1.size
        have exb7 : ∃ x, y1.heap.size = x := ⟨_, rfl⟩
        generalize hq1 : y1.alloc (.cells #[.int .i64 0, .int .i64 0] 94) = y2 at *
        have hT2 : Below wr.heap.size wr y2 := hT1.trans (hby1.mono hT1.size)
        obtain ⟨b7, eb7⟩ := exb7
        rw [eb7] at HNb7 hnb7 ⊢
        clear hby1 hq1
        rw [eb7] at hdb7b8
        refine wpAnyH_ready (rs := [11]) (by kernel_rfl) (by simp) ?_
        refine AllReadyH.cons rfl (fun K hK => ?_) (AllReadyH.nil)
        have HBs : Hid (BlkF ((y2.setCell ⟨b7, 0, none⟩ (.int .i64 bs9)).setCell ⟨b7, 1, none⟩ (.int .i64 bd9)) wr.heap.size b7 [.int .i64 bs9, .int .i64 bd9]) := Lib.hid (BlkF.st (vs' := [.int .i64 bs9, .int .i64 bd9]) HNb7.out rfl)
        have hTs : Below wr.heap.size wr ((y2.setCell ⟨b7, 0, none⟩ (.int .i64 bs9)).setCell ⟨b7, 1, none⟩ (.int .i64 bd9)) := stW_below HNb7.out.ge [.int .i64 bs9, .int .i64 bd9] y2 0 hT2
        obtain ⟨u_0, u_1⟩ := b2 HNb7.out
        have u_f := HNb7.out.fz
        go_simp
        go_wp2_with fail
        refine hK.out _ _ (HS.out _ hTs) (fun hHeld => ?_)
        clear hK K
        try simp only [Act.put, sA, sB, sC]
        clear u_f u_0 u_1
        have H2HNb8 : Hid (BlkF ((y2.setCell ⟨b7, 0, none⟩ (.int .i64 bs9)).setCell ⟨b7, 1, none⟩ (.int .i64 bd9)) wr.heap.size b8 _) := Lib.hid (HNb8.out.other (c := b7) (i := 0) (l := [.int .i64 bs9, .int .i64 bd9]) (by have := HNb8.out.lt; omega))
        clear HNb7
        generalize hs2 : ((y2.setCell ⟨b7, 0, none⟩ (.int .i64 bs9)).setCell ⟨b7, 1, none⟩ (.int .i64 bd9)) = y3 at *
        clear hs2
        have hT3 := hTs
        clear hTs
        have HNb7 := HBs
        clear HBs
        replace HNb8 := H2HNb8
        refine wpAnyH_ready (rs := [12]) (by kernel_rfl) (by simp) ?_
        refine AllReadyH.cons rfl (fun K hK => ?_) (AllReadyH.nil)
        have HBs : Hid (BlkF ((y3.setCell ⟨b8, 0, none⟩ (.int .i64 e9)).setCell ⟨b8, 1, none⟩ (.int .i64 d9)) wr.heap.size b8 [.int .i64 e9, .int .i64 d9]) := Lib.hid (BlkF.st (vs' := [.int .i64 e9, .int .i64 d9]) HNb8.out rfl)
        have hTs : Below wr.heap.size wr ((y3.setCell ⟨b8, 0, none⟩ (.int .i64 e9)).setCell ⟨b8, 1, none⟩ (.int .i64 d9)) := stW_below HNb8.out.ge [.int .i64 e9, .int .i64 d9] y3 0 hT3
        obtain ⟨u_0, u_1⟩ := b2 HNb8.out
        have u_f := HNb8.out.fz
        go_simp
        go_wp2_with fail
        refine hK.out _ _ (HS.out _ hTs) (fun hHeld => ?_)
        clear hK K
        try simp only [Act.put, sA, sB, sC]
        clear u_f u_0 u_1
        have H2HNb7 : Hid (BlkF ((y3.setCell ⟨b8, 0, none⟩ (.int .i64 e9)).setCell ⟨b8, 1, none⟩ (.int .i64 d9)) wr.heap.size b7 _) := Lib.hid (HNb7.out.other (c := b8) (i := 0) (l := [.int .i64 e9, .int .i64 d9]) (by have := HNb7.out.lt; omega))
        clear HNb8
        generalize hs3 : ((y3.setCell ⟨b8, 0, none⟩ (.int .i64 e9)).setCell ⟨b8, 1, none⟩ (.int .i64 d9)) = y4 at *
        clear hs3
        have hT4 := hTs
        clear hTs
        have HNb8 := HBs
        clear HBs
        replace HNb7 := H2HNb7
        refine wpAnyH_done (by kernel_rfl) ?_ _
        clear hHeld HS
        obtain ⟨u, rfl⟩ : ∃ z, z = y4 := ⟨_, rfl⟩
        have hTu := hT4
        have HNa := HNb7
        have HNb := HNb8
        obtain ⟨x0, x1⟩ := b2 HNa.out
        obtain ⟨x2, x3⟩ := b2 HNb.out
        go_wp2_with fail
        go_quiet (fail)
        go_wp2
        go_ret2
        first | exact ⟨rfl, below_drewN (hB.trans (hTu.mono hB.size)) _⟩ | exact ⟨rfl, hB.trans (hTu.mono hB.size)⟩
set_option maxRecDepth 100000 in
set_option maxHeartbeats 1000000 in
theorem rounded_is (n d lo hi : Int) (w : World) (h0 : 0 ≤ n) (h1 : n ≤ 1000000000000000000) (h2 : 0 < d) (h3 : d ≤ 1000000000000000000) (hlo : Hid (n / d = lo)) (hhi : Hid (upE n d = hi)) :
    Calls Tryz.prog 92 #[.int .i64 n, .int .i64 d] w fun e w' => e = .returned (.agg #[.int .i64 lo, .int .i64 hi]) ∧ Below w.heap.size w w' := by
  go_enter Tryz.func92, Tryz.ntmps92
  go_wp2_with fail
  refine (floorB n d lo _ h0 h1 h2 h3 hlo).mono ?_
  rintro e x1 ⟨rfl, hb1⟩
  have hB1 : Below w.heap.size w x1 := ((Below.refl _ _).alloc (Nat.le_refl _) _).trans (hb1.mono (by simp))
  have Z0 := (BlkF.made (B := w.heap.size) w [.int .i64 0, .int .i64 0] 62 (Nat.le_refl _)).below hb1
  clear hb1
  go_wp2_with fail
  refine (ceilB n d hi _ h0 h1 h2 h3 hhi).mono ?_
  rintro e x2 ⟨rfl, hb2⟩
  have hB2 := hB1.trans (hb2.mono hB1.size)
  replace Z0 := Z0.below hb2
  obtain ⟨z0, z1⟩ := b2 Z0
  have zf := Z0.fz
  have zl := Z0.lt
  clear hb2 hB1
  go_wp2
  refine bodyPost_ret (v := .agg #[.int .i64 lo, .int .i64 hi]) (by simp [results, Tryz.results92, go_sem, *]) rfl ⟨rfl, ?_⟩
  (repeat (first | (with_reducible refine Below.drew ?_) | (with_reducible refine below_drewN ?_ _) | (with_reducible refine Below.alloc ?_ (by first | omega | (simp; done) | (simp; omega) | (simp at *; omega)) _) | (with_reducible refine Below.setCell ?_ (by first | omega | (simp; done) | (simp; omega) | (simp at *; omega)) _) | (with_reducible exact Below.refl _ _) | (with_reducible assumption) | (with_reducible refine Below.trans ?_ (Below.mono (by assumption) (by first | omega | (simp; done) | (simp; omega) | (simp at *; omega))))))
set_option maxRecDepth 100000 in
set_option maxHeartbeats 1000000 in
theorem refDepthAt_is (nm : ByteArray) (s : Int) (G : List Ga) (D : List Le) (A : Option Addr) (dn n cap k : Nat) (t lo hi : Int) (w : World) (hdn : Hid (dn = D.length)) (hn : n = dn + 1) (hok : Hid (PlnOk nm s G D)) (hP : Hid (SlRows ptV 2 w A (ptL D (dn + 1)))) (hk : k < dn) (hpre : Hid (∀ j, j < k → secT D (j + 1) < t)) (hbeg : Hid (secT D k ≤ t)) (hend : Hid (t ≤ secT D (k + 1)))
    (hlo : Hid (((legK s G D k).bd * (legK s G D k).s + ((legK s G D k).d - (legK s G D k).bd) * (t - secT D k)) / (legK s G D k).s = lo)) (hhi : Hid (depV (legK s G D k) (t - secT D k) = hi)) :
    Calls Tryz.prog 64 #[.slice A n cap, .int .i64 t] w fun e w' => e = .returned (.agg #[.int .i64 lo, .int .i64 hi]) ∧ Below w.heap.size w w' := by
  have hkD : k < D.length := by have := hdn.out; omega
  have hy0 := legK_ok hok.out hkD
  have e30 : D[k].s = (legK s G D k).s := by show _ = (D.getD k default).s; rw [getD_leE hkD]
  have hend0 := hend.out
  rw [secT_succ hkD, e30] at hend0
  have hbeg0 := hbeg.out
  have hlo0 := hlo.out
  have hhi0 := hhi.out
  obtain ⟨y, hyy⟩ : ∃ z, Hid (legK s G D k = z) := ⟨_, Lib.hid rfl⟩
  obtain ⟨b0, hb0⟩ : ∃ z, Hid (secT D k = z) := ⟨_, Lib.hid rfl⟩
  rw [hyy.out] at hy0 hend0 hlo0 hhi0
  rw [hb0.out] at hend0 hbeg0 hlo0 hhi0
  clear e30 hlo hhi
  obtain ⟨n9, hn9⟩ : ∃ z, y.bd * y.s + (y.d - y.bd) * (t - b0) = z := ⟨_, rfl⟩
  obtain ⟨q9, hq9⟩ : ∃ z, y.s = z := ⟨_, rfl⟩
  have HN9 : Hid ((legK s G D k).bd * (legK s G D k).s + ((legK s G D k).d - (legK s G D k).bd) * (t - secT D k) = n9) := Lib.hid (by rw [hyy.out, hb0.out]; exact hn9)
  have HQ9 : Hid ((legK s G D k).s = q9) := Lib.hid (by rw [hyy.out]; exact hq9)
  have hdb := dep_bd (q := t - b0) hy0 (by omega) (by omega)
  have hnE : y.bd * (y.s - (t - b0)) + y.d * (t - b0) = n9 := by
    rw [← hn9, Int.mul_sub, Int.sub_mul]
    omega
  have hs := hy0.s
  have hn0 : 0 ≤ n9 ∧ n9 ≤ 30000000000 := by
    obtain ⟨h1, h2, h3, h4, h5, _⟩ := hdb
    omega
  have hlo2 : Hid (n9 / q9 = lo) := Lib.hid (by rw [← hlo0, hn9, hq9])
  have hhi2 : Hid (upE n9 q9 = hi) := Lib.hid (by rw [← hhi0]; unfold depV; rw [hnE, hq9])
  rw [hq9] at hs
  clear hdb hnE hend0 hbeg0 hlo0 hhi0 hy0 hn9 hq9
  clear hyy hb0
  subst hn
  go_enter Tryz.func64, Tryz.ntmps64
  go_wp2_with fail
  refine (refAt_is nm s G D A dn (dn + 1) cap k t n9 q9 _ hdn rfl hok (Lib.hid (hP.out.below (by (repeat (first | (with_reducible refine Below.drew ?_) | (with_reducible refine below_drewN ?_ _) | (with_reducible refine Below.alloc ?_ (by first | omega | (simp; done) | (simp; omega) | (simp at *; omega)) _) | (with_reducible refine Below.setCell ?_ (by first | omega | (simp; done) | (simp; omega) | (simp at *; omega)) _) | (with_reducible exact Below.refl _ _) | (with_reducible assumption) | (with_reducible refine Below.trans ?_ (Below.mono (by assumption) (by first | omega | (simp; done) | (simp; omega) | (simp at *; omega))))))))) hk hpre hbeg hend HN9 HQ9).mono ?_
  rintro e x1 ⟨rfl, hb1⟩
  have hB1 : Below w.heap.size w x1 := ((Below.refl _ _).alloc (Nat.le_refl _) _).trans (hb1.mono (by simp))
  have Z0 := (BlkF.made (B := w.heap.size) w [.int .i64 0, .int .i64 0] 62 (Nat.le_refl _)).below hb1
  clear hb1
  go_wp2_with fail
  refine (rounded_is n9 q9 lo hi _ (by omega) (by omega) (by omega) (by omega) hlo2 hhi2).mono ?_
  rintro e x2 ⟨rfl, hb2⟩
  have hB2 := hB1.trans (hb2.mono hB1.size)
  replace Z0 := Z0.below hb2
  obtain ⟨z0, z1⟩ := b2 Z0
  have zf := Z0.fz
  have zl := Z0.lt
  clear hb2 hB1
  go_wp2
  refine bodyPost_ret (v := .agg #[.int .i64 lo, .int .i64 hi]) (by simp [results, Tryz.results64, go_sem, *]) rfl ⟨rfl, ?_⟩
  (repeat (first | (with_reducible refine Below.drew ?_) | (with_reducible refine below_drewN ?_ _) | (with_reducible refine Below.alloc ?_ (by first | omega | (simp; done) | (simp; omega) | (simp at *; omega)) _) | (with_reducible refine Below.setCell ?_ (by first | omega | (simp; done) | (simp; omega) | (simp at *; omega)) _) | (with_reducible exact Below.refl _ _) | (with_reducible assumption) | (with_reducible refine Below.trans ?_ (Below.mono (by assumption) (by first | omega | (simp; done) | (simp; omega) | (simp at *; omega))))))
end Go.Proofs.YtijdphlejokijaaGreat
