import Derived.Test.YtijdphlejokijaaGreatERSERvP
import Derived.Test.YtijdphlejokijaaGreatERSESvc
import Derived.Outline
namespace Go.Proofs.YtijdphlejokijaaGreat
open Go.ChangeShapes Go.WideShapes Go.ChangeAt Go.RowKit
set_option linter.unusedVariables false
set_option linter.unusedSimpArgs false
attribute [local go_sem ↓] Go.wp_at_zero Go.wp_at_succ
theorem blkF_belowR {u u' : World} {B b N : Nat} {vs : List Value} (h : BlkF u B b vs) (hb : Below N u u') (hlt : b < N) : BlkF u' B b vs := h.low hb hlt
set_option maxRecDepth 100000 in
set_option maxHeartbeats 8000000 in
theorem refReserves_is (nm : ByteArray) (s : Int) (G : List Ga) (D : List Le) (A B : Option Addr) (gn gc dn dc : Nat) (T : List Ox) (r : Ru) (AT : Option Addr) (tn tc : Nat) (gF : Nat → Nat) (vF sF : Nat → Int) (NN : Nat) (w : World) (hgn : Hid (gn = G.length)) (hdn : Hid (dn = D.length)) (hG : Hid (SlRows gaV 2 w A G)) (hD : Hid (SlRows leV 3 w B D)) (hF : Hid (∀ i : Nat, gF i = ndG s G D (0 + (i : Int)) ∧ vF i = ndV r s G D (0 + (i : Int)) ∧ sF i = 0 + (i : Int))) (hok : Hid (PlnOk nm s G D)) (hru : Hid (RuOk T r)) (hS9 : Hid (secT D D.length ≤ 20000)) (hNN : Hid (ndN D 0 = NN)) :
    Calls Tryz.prog 12 #[.agg #[.string nm, .int .i64 s, .slice A gn gc, .slice B dn dc], .agg #[.slice AT tn tc, .int .i64 r.a, .int .i64 r.b, .int .i64 r.nc, .int .i64 r.dn, .int .i64 r.br, .int .i64 r.em, .int .i64 r.pa, .int .i64 r.sc]] w fun e w' => ∃ mb cm, e = .returned (.slice (some ⟨mb, 0, none⟩) gn cm) ∧ SlRows nvV 2 w' (some ⟨mb, 0, none⟩) (rvG rwS gF vF sF gn NN) ∧ w.heap.size ≤ mb ∧ Below w.heap.size w w' := by
  obtain ⟨i0, hi, hz0', hz1', hz2'⟩ := info_partsG infoNv
  have HI := Lib.hid hi
  have HZ0 := Lib.hid hz0'
  have HZ1 := Lib.hid hz1'
  have HZ2 := Lib.hid hz2'
  clear hi hz0' hz1' hz2'
  have hd60 : dn ≤ 60 := by have := hok.out.d6; have := hdn.out; omega
  have g8 : gn ≤ 8 := by have := hok.out.g8; have := hgn.out; omega
  have g0 : 0 < gn := by have := hok.out.g0; have := hgn.out; omega
  have hS2 : Hid (secT D dn ≤ 20000) := Lib.hid (by rw [hdn.out]; exact hS9.out)
  obtain ⟨S, hS⟩ : ∃ z, Hid (secT D dn = z) := ⟨_, Lib.hid rfl⟩
  have hSb : 0 ≤ S ∧ S ≤ 20000 := by have h1 := hok.out.sec dn; have h2 := hS2.out; rw [hS.out] at h1 h2; omega
  have hNb : NN ≤ 20001 := by
    have h := hNN.out
    unfold ndN at h
    have h2 := hS9.out
    by_cases e : D.length = 0
    · rw [if_pos e] at h; omega
    · rw [if_neg e] at h; omega
  go_enter Tryz.func12, Tryz.ntmps12
  go_wp2_with fail
  go_loopw [5, 6] (fun v i wr => ∃ (k : Nat) (C : Option Addr) (cm : Nat), k ≤ gn ∧ i = .int .i64 k ∧ v = .slice C k cm ∧ Hid (wr.ownsRow (w.heap.size + 2) 44 2 (.slice C k cm) k (rowsV nvV (List.replicate k (0, -1)))) ∧ Hid (BlkF wr w.heap.size w.heap.size [.string nm, .int .i64 s, .slice A gn gc, .slice B dn dc]) ∧ Hid (BlkF wr w.heap.size (w.heap.size + 1) [.slice AT tn tc, .int .i64 r.a, .int .i64 r.b, .int .i64 r.nc, .int .i64 r.dn, .int .i64 r.br, .int .i64 r.em, .int .i64 r.pa, .int .i64 r.sc]) ∧ Hid (Below w.heap.size w wr) ∧ w.heap.size + 2 ≤ wr.heap.size) (fun _ i _ => gn - (intOf i).toNat)
  case atStart => exact ⟨0, none, 0, by omega, rfl, rfl, Lib.hid ⟨by simp [rowsV], Or.inl ⟨rfl, rfl⟩⟩, Lib.hid ((BlkF.made (B := w.heap.size) w [.string nm, .int .i64 s, .slice A gn gc, .slice B dn dc] 25 (Nat.le_refl _)).below ((Below.refl _ _).alloc (Nat.le_refl _) _)), Lib.hid (by have := BlkF.made (B := w.heap.size) (w.alloc (.cells #[.string nm, .int .i64 s, .slice A gn gc, .slice B dn dc] 25)) [.slice AT tn tc, .int .i64 r.a, .int .i64 r.b, .int .i64 r.nc, .int .i64 r.dn, .int .i64 r.br, .int .i64 r.em, .int .i64 r.pa, .int .i64 r.sc] 30 (by simp); simpa using this), Lib.hid (by (repeat (first | (with_reducible refine Below.drew ?_) | (with_reducible refine below_drewN ?_ _) | (with_reducible refine Below.alloc ?_ (by first | omega | (simp; done) | (simp; omega) | (simp at *; omega)) _) | (with_reducible refine Below.setCell ?_ (by first | omega | (simp; done) | (simp; omega) | (simp at *; omega)) _) | (with_reducible exact Below.refl _ _) | (with_reducible assumption) | (with_reducible refine Below.trans ?_ (Below.mono (by assumption) (by first | omega | (simp; done) | (simp; omega) | (simp at *; omega))))))), by simp⟩
  case round =>
    obtain ⟨k, C, cm, hk, rfl, rfl, HO, PB, RB, HBw, hz2⟩ := hrel
    have hB := HBw.out
    obtain ⟨c0, c1, c2, c3⟩ := b4 PB.out
    have lP := PB.out.lt
    have lR := RB.out.lt
    by_cases hkn : k < gn
    · have kn : (k : Int) < (gn : Int) := by omega
      obtain ⟨XS, hXS⟩ : ∃ z, Hid (List.replicate k ((0 : Int), (-1 : Int)) = z) := ⟨_, Lib.hid rfl⟩
      rw [hXS.out] at HO
      have hXl : XS.length = k := by rw [← hXS.out, List.length_replicate]
      have HXl := Lib.hid hXl
      clear hXl
      have wk : IntKind.i64.wrap ((k : Int) + 1) = (k : Int) + 1 := IntWalk.i64_in _ (by omega)
      go_wp2_with (at_builtin; refine wpList_append_slG rfl _ _ 34 rfl (w.heap.size + 2) 44 i0 (.agg #[.int .i64 0, .int .i64 0]) 2 16 Tryz.underlying34 HI.out HZ0.out HZ1.out HZ2.out rfl (by decide) (.slice C k cm) k (rowsV nvV XS) rfl (own_belowG HO.out ((Below.refl _ _).alloc (Nat.le_refl _) _) (Nat.le_refl _)) (some ⟨wr.heap.size, 0, none⟩) 1 1 [.int .i64 0, .int .i64 (-1)] rfl (fun h => by cases h) rfl (fun ad had j v hj => by cases had; rw [addNR, Nat.zero_add]; exact (BlkF.made (B := 0) wr [.int .i64 0, .int .i64 (-1)] 44 (Nat.zero_le _)).at' j v hj) (by intro v hv; simp at hv; rcases hv with rfl | rfl <;> rfl) (by unfold maxLen; omega) (by omega) (by simp; omega) ?_)
      intro rv X0 hown hgrow hblk
      have hNX : Below (w.heap.size + 2) wr X0 := ((Below.refl (w.heap.size + 2) wr).alloc (by omega) _).grown hgrow (by simp; omega) (fun r hr => (own_blockG HO.out r hr).1)
      obtain ⟨A5, c5, hrv, hz9, hz8, hz7, hz6, hz5⟩ := SlRows_own (f := nvV) (n := 2) (L := XS ++ [((0 : Int), (-1 : Int))]) (fun _ => rfl) (by rw [rowsV_appG, List.length_append, HXl.out]; exact hown)
      clear hz9 hz8 hz7 hz6 hz5
      rw [show (XS ++ [((0 : Int), (-1 : Int))]).length = k + 1 by simp [HXl.out]] at hrv
      subst hrv
      have HO2 : Hid (X0.ownsRow (w.heap.size + 2) 44 2 (.slice A5 (k + 1) c5) (k + 1) (rowsV nvV (List.replicate (k + 1) (0, -1)))) := Lib.hid (by rw [show List.replicate (k + 1) ((0 : Int), (-1 : Int)) = XS ++ [(0, -1)] by rw [← hXS.out, List.replicate_succ'], rowsV_appG]; exact hown)
      have P2 := Lib.hid (blkF_belowR PB.out hNX (by omega))
      have R2 := Lib.hid (blkF_belowR RB.out hNX (by omega))
      have hB2 := Lib.hid (hB.trans (hNX.mono (by omega)))
      have hz3 := Nat.le_trans hz2 hNX.size
      clear hown hgrow hblk hNX HO PB RB c0 c1 c2 c3 hXS HXl hB HBw hz2 lP lR
      go_wp2
      go_roundw
      case rel => exact ⟨k + 1, A5, c5, by omega, by go_num, rfl, HO2, P2, R2, hB2, hz3⟩
      case measure => simp [intOf]; omega
    · have kn : ¬ (k : Int) < (gn : Int) := by omega
      obtain rfl : gn = k := by omega
      obtain ⟨mb, zs, rfl, hmb, BM⟩ := own_box HO.out g0
      have hrep : rvG rwS gF vF sF gn 0 = List.replicate gn (0, -1) := rfl
      rw [← hrep] at BM
      have BM0 := Lib.hid BM
      have hgL : Hid (∀ i, i < NN → gF i < gn) := Lib.hid fun i hi => by
        have h := ndN_lt (show i < ndN D 0 by rw [hNN.out]; exact hi)
        rw [(hF.out i).1, hgn.out]
        exact (ndG_lt hok.out h.1 (by rw [Int.zero_add]; exact h.2)).1
      clear HO BM hrep hB hz2 lP lR
      rename World => wo
      go_wp2_with fail
      go_loopw [7] (fun i wr => ∃ k : Nat, k ≤ NN ∧ i = .int .i64 k ∧ Hid (BoxN wr mb 44 (rowsV nvV (rvG rwS gF vF sF gn k) ++ zs)) ∧ Hid (BlkF wr w.heap.size w.heap.size [.string nm, .int .i64 s, .slice A gn gc, .slice B dn dc]) ∧ Hid (BlkF wr w.heap.size (w.heap.size + 1) [.slice AT tn tc, .int .i64 r.a, .int .i64 r.b, .int .i64 r.nc, .int .i64 r.dn, .int .i64 r.br, .int .i64 r.em, .int .i64 r.pa, .int .i64 r.sc]) ∧ Hid (Below w.heap.size w wr)) (fun i _ => NN - (intOf i).toNat)
      case atStart => exact ⟨0, by omega, rfl, BM0, PB, RB, HBw⟩
      case round =>
        clear BM0 PB RB HBw c0 c1 c2 c3
        obtain ⟨k, hk, rfl, BM, PB, RB, HBw⟩ := hrel
        have hB := HBw.out
        have zb := hB.size
        have hk20 : (k : Int) ≤ 20001 := by omega
        obtain ⟨c0, c1, c2, c3⟩ := b4 PB.out
        obtain ⟨r0, r1, r2, r3, r4, r5, r6, r7, r8⟩ := b9 RB.out
        go_wp2_with fail
        refine (refSeconds_is nm s G D A B gn gc dn dc S _ hgn hdn hok (Lib.hid (hG.out.below hB)) (Lib.hid (hD.out.below hB)) hS).mono ?_
        rintro e x1 ⟨rfl, hb1⟩
        have hB1 : Below w.heap.size w x1 := hB.trans (hb1.mono hB.size)
        have zb1 := hB1.size
        replace PB := Lib.hid (PB.out.below hb1)
        replace RB := Lib.hid (RB.out.below hb1)
        replace BM := Lib.hid (BM.out.below hb1)
        clear c0 c1 c2 c3 r0 r1 r2 r3 r4 r5 r6 r7 r8 hb1 hB HBw zb
        obtain ⟨c0, c1, c2, c3⟩ := b4 PB.out
        obtain ⟨r0, r1, r2, r3, r4, r5, r6, r7, r8⟩ := b9 RB.out
        by_cases hkN : k < NN
        · have hkN2 := ndN_lt (show k < ndN D 0 by rw [hNN.out]; exact hkN)
          have hd0 : 0 < dn := by have := hdn.out; omega
          have hd1 : (0 : Int) < (dn : Int) := by omega
          have hkS : (k : Int) ≤ S := by have := hkN2.2; rw [← hdn.out, hS.out] at this; exact this
          have hkT : Hid ((k : Int) ≤ secT D dn) := Lib.hid (by rw [hS.out]; exact hkS)
          obtain ⟨gk, hgk⟩ : ∃ z, Hid (gF k = z) := ⟨_, Lib.hid rfl⟩
          obtain ⟨v9, hv9⟩ : ∃ z, Hid (vF k = z) := ⟨_, Lib.hid rfl⟩
          have hFk := hF.out k
          rw [Int.zero_add] at hFk
          have hg9 : Hid (ndG s G D (k : Int) = gk) := Lib.hid (by rw [← hFk.1]; exact hgk.out)
          have hv8 : Hid (ndV r s G D (k : Int) = v9) := Lib.hid (by rw [← hFk.2.1]; exact hv9.out)
          have hs8 : Hid (sF k = (k : Int)) := Lib.hid hFk.2.2
          have hga := hgL.out k hkN
          rw [hgk.out] at hga
          obtain ⟨l9, hl9⟩ : ∃ z, Hid (rvG rwS gF vF sF gn k = z) := ⟨_, Lib.hid rfl⟩
          have hll : l9.length = gn := by rw [← hl9.out]; exact rvG_len k
          have hgl9 : gk < l9.length := by omega
          obtain ⟨a9, ha9⟩ : ∃ z, Hid ((l9.getD gk (0, -1)).1 = z) := ⟨_, Lib.hid rfl⟩
          obtain ⟨z9, hz9⟩ : ∃ z, Hid ((l9.getD gk (0, -1)).2 = z) := ⟨_, Lib.hid rfl⟩
          have hst : Hid (rvG rwS gF vF sF gn (k + 1) = l9.set gk (rwS (l9.getD gk (0, -1)) v9 (k : Int))) := Lib.hid (by
            show (rvG rwS gF vF sF gn k).set (gF k) _ = _
            rw [hl9.out, hgk.out, hv9.out, hs8.out])
          rw [hl9.out] at BM
          clear hkN2 hFk hl9
          have hgl8 := Lib.hid hgl9
          have hll8 := Lib.hid hll
          clear hgl9 hll
          go_wp2_with fail
          refine (refNeedAt_is nm s G D A B gn gc dn dc T r AT tn tc (k : Int) v9 gk _ hgn hdn hok (Lib.hid (hG.out.below hB1)) (Lib.hid (hD.out.below hB1)) hru hd0 (by omega) hkT hS2 hg9 hv8).mono ?_
          rintro e x2 ⟨rfl, hb2⟩
          have hgl9 := hgl8.out
          have hll := hll8.out
          have hB2 : Below w.heap.size w x2 := hB1.trans (hb2.mono hB1.size)
          replace PB := Lib.hid (PB.out.below hb2)
          replace RB := Lib.hid (RB.out.below hb2)
          replace BM := Lib.hid (BM.out.below hb2)
          clear c0 c1 c2 c3 r0 r1 r2 r3 r4 r5 r6 r7 r8 hb2 hB1 zb1 hgl8 hll8
          have hBF := (BoxN.blk (N := 0) BM.out (Nat.zero_le _)).at'
          have mm0 : x2.cell? ⟨mb, gk * 2, none⟩ = some (.int .i64 a9) := by rw [← ha9.out]; exact hBF _ _ (rowsV_get_nv hgl9 zs)
          have mm1 : x2.cell? ⟨mb, gk * 2 + 1, none⟩ = some (.int .i64 z9) := by rw [← hz9.out]; exact hBF _ _ (rowsV_get2_nv hgl9 zs)
          have hx9 := True.intro
          clear hBF
          have q0 : ¬ (gk : Int) < 0 := by omega
          have q1 : (gk : Int) < (gn : Int) := by omega
          have wk : IntKind.i64.wrap ((k : Int) + 1) = (k : Int) + 1 := IntWalk.i64_in _ (by omega)
          by_cases hzn : z9 < 0
          · skip
            have hst2 : Hid (rvG rwS gF vF sF gn (k + 1) = l9.set gk (v9, (k : Int))) := Lib.hid (by rw [hst.out]; unfold rwS; rw [ha9.out, hz9.out, if_pos (Or.inl hzn)])
            have mf := (BoxN.blk (N := 0) BM.out (Nat.zero_le _)).fz
            have BM2 : BoxN ((x2.setCell ⟨mb, gk * 2, none⟩ (.int .i64 v9)).setCell ⟨mb, gk * 2 + 1, none⟩ (.int .i64 (k : Int))) mb 44 (rowsV nvV (l9.set gk (v9, (k : Int))) ++ zs) := by
              have h := (BM.out.set (gk * 2) (.int .i64 v9)).set (gk * 2 + 1) (.int .i64 (k : Int))
              rwa [rows_set_nv v9 (k : Int) zs l9 gk hgl9] at h
            have P2 : BlkF ((x2.setCell ⟨mb, gk * 2, none⟩ (.int .i64 v9)).setCell ⟨mb, gk * 2 + 1, none⟩ (.int .i64 (k : Int))) w.heap.size w.heap.size [.string nm, .int .i64 s, .slice A gn gc, .slice B dn dc] := PB.out.other (c := mb) (i := gk * 2) (l := [.int .i64 v9, .int .i64 (k : Int)]) (by omega)
            have R2 : BlkF ((x2.setCell ⟨mb, gk * 2, none⟩ (.int .i64 v9)).setCell ⟨mb, gk * 2 + 1, none⟩ (.int .i64 (k : Int))) w.heap.size (w.heap.size + 1) [.slice AT tn tc, .int .i64 r.a, .int .i64 r.b, .int .i64 r.nc, .int .i64 r.dn, .int .i64 r.br, .int .i64 r.em, .int .i64 r.pa, .int .i64 r.sc] := RB.out.other (c := mb) (i := gk * 2) (l := [.int .i64 v9, .int .i64 (k : Int)]) (by omega)
            have hB4 : Below w.heap.size w ((x2.setCell ⟨mb, gk * 2, none⟩ (.int .i64 v9)).setCell ⟨mb, gk * 2 + 1, none⟩ (.int .i64 (k : Int))) := (hB2.setCell (p := ⟨mb, gk * 2, none⟩) (show w.heap.size ≤ mb by omega) _).setCell (p := ⟨mb, gk * 2 + 1, none⟩) (show w.heap.size ≤ mb by omega) _
            have HW : Hid (BoxN ((x2.setCell ⟨mb, gk * 2, none⟩ (.int .i64 v9)).setCell ⟨mb, gk * 2 + 1, none⟩ (.int .i64 (k : Int))) mb 44 (rowsV nvV (rvG rwS gF vF sF gn (k + 1)) ++ zs) ∧ BlkF ((x2.setCell ⟨mb, gk * 2, none⟩ (.int .i64 v9)).setCell ⟨mb, gk * 2 + 1, none⟩ (.int .i64 (k : Int))) w.heap.size w.heap.size [.string nm, .int .i64 s, .slice A gn gc, .slice B dn dc] ∧ BlkF ((x2.setCell ⟨mb, gk * 2, none⟩ (.int .i64 v9)).setCell ⟨mb, gk * 2 + 1, none⟩ (.int .i64 (k : Int))) w.heap.size (w.heap.size + 1) [.slice AT tn tc, .int .i64 r.a, .int .i64 r.b, .int .i64 r.nc, .int .i64 r.dn, .int .i64 r.br, .int .i64 r.em, .int .i64 r.pa, .int .i64 r.sc] ∧ Below w.heap.size w ((x2.setCell ⟨mb, gk * 2, none⟩ (.int .i64 v9)).setCell ⟨mb, gk * 2 + 1, none⟩ (.int .i64 (k : Int)))) := Lib.hid ⟨by rw [hst2.out]; exact BM2, P2, R2, hB4⟩
            clear hst hst2 hll BM2 P2 R2 hB4 hgl9 hx9
            go_wp2
            go_roundw
            case rel => exact ⟨k + 1, by omega, by go_num, Lib.hid HW.out.1, Lib.hid HW.out.2.1, Lib.hid HW.out.2.2.1, Lib.hid HW.out.2.2.2⟩
            case measure => simp [intOf]; omega
          · by_cases hlt : a9 < v9
            · skip
              have hst2 : Hid (rvG rwS gF vF sF gn (k + 1) = l9.set gk (v9, (k : Int))) := Lib.hid (by rw [hst.out]; unfold rwS; rw [ha9.out, hz9.out, if_pos (Or.inr hlt)])
              have mf := (BoxN.blk (N := 0) BM.out (Nat.zero_le _)).fz
              have BM2 : BoxN ((x2.setCell ⟨mb, gk * 2, none⟩ (.int .i64 v9)).setCell ⟨mb, gk * 2 + 1, none⟩ (.int .i64 (k : Int))) mb 44 (rowsV nvV (l9.set gk (v9, (k : Int))) ++ zs) := by
                have h := (BM.out.set (gk * 2) (.int .i64 v9)).set (gk * 2 + 1) (.int .i64 (k : Int))
                rwa [rows_set_nv v9 (k : Int) zs l9 gk hgl9] at h
              have P2 : BlkF ((x2.setCell ⟨mb, gk * 2, none⟩ (.int .i64 v9)).setCell ⟨mb, gk * 2 + 1, none⟩ (.int .i64 (k : Int))) w.heap.size w.heap.size [.string nm, .int .i64 s, .slice A gn gc, .slice B dn dc] := PB.out.other (c := mb) (i := gk * 2) (l := [.int .i64 v9, .int .i64 (k : Int)]) (by omega)
              have R2 : BlkF ((x2.setCell ⟨mb, gk * 2, none⟩ (.int .i64 v9)).setCell ⟨mb, gk * 2 + 1, none⟩ (.int .i64 (k : Int))) w.heap.size (w.heap.size + 1) [.slice AT tn tc, .int .i64 r.a, .int .i64 r.b, .int .i64 r.nc, .int .i64 r.dn, .int .i64 r.br, .int .i64 r.em, .int .i64 r.pa, .int .i64 r.sc] := RB.out.other (c := mb) (i := gk * 2) (l := [.int .i64 v9, .int .i64 (k : Int)]) (by omega)
              have hB4 : Below w.heap.size w ((x2.setCell ⟨mb, gk * 2, none⟩ (.int .i64 v9)).setCell ⟨mb, gk * 2 + 1, none⟩ (.int .i64 (k : Int))) := (hB2.setCell (p := ⟨mb, gk * 2, none⟩) (show w.heap.size ≤ mb by omega) _).setCell (p := ⟨mb, gk * 2 + 1, none⟩) (show w.heap.size ≤ mb by omega) _
              have HW : Hid (BoxN ((x2.setCell ⟨mb, gk * 2, none⟩ (.int .i64 v9)).setCell ⟨mb, gk * 2 + 1, none⟩ (.int .i64 (k : Int))) mb 44 (rowsV nvV (rvG rwS gF vF sF gn (k + 1)) ++ zs) ∧ BlkF ((x2.setCell ⟨mb, gk * 2, none⟩ (.int .i64 v9)).setCell ⟨mb, gk * 2 + 1, none⟩ (.int .i64 (k : Int))) w.heap.size w.heap.size [.string nm, .int .i64 s, .slice A gn gc, .slice B dn dc] ∧ BlkF ((x2.setCell ⟨mb, gk * 2, none⟩ (.int .i64 v9)).setCell ⟨mb, gk * 2 + 1, none⟩ (.int .i64 (k : Int))) w.heap.size (w.heap.size + 1) [.slice AT tn tc, .int .i64 r.a, .int .i64 r.b, .int .i64 r.nc, .int .i64 r.dn, .int .i64 r.br, .int .i64 r.em, .int .i64 r.pa, .int .i64 r.sc] ∧ Below w.heap.size w ((x2.setCell ⟨mb, gk * 2, none⟩ (.int .i64 v9)).setCell ⟨mb, gk * 2 + 1, none⟩ (.int .i64 (k : Int)))) := Lib.hid ⟨by rw [hst2.out]; exact BM2, P2, R2, hB4⟩
              clear hst hst2 hll BM2 P2 R2 hB4 hgl9 hx9
              go_wp2
              go_roundw
              case rel => exact ⟨k + 1, by omega, by go_num, Lib.hid HW.out.1, Lib.hid HW.out.2.1, Lib.hid HW.out.2.2.1, Lib.hid HW.out.2.2.2⟩
              case measure => simp [intOf]; omega
            · have hst2 : Hid (rvG rwS gF vF sF gn (k + 1) = l9) := Lib.hid (by rw [hst.out]; unfold rwS; rw [ha9.out, hz9.out, if_neg (by omega), set_same hgl9])
              have BM2 : Hid (BoxN x2 mb 44 (rowsV nvV (rvG rwS gF vF sF gn (k + 1)) ++ zs)) := Lib.hid (by rw [hst2.out]; exact BM.out)
              clear hst hst2 hll hgl9 BM hx9
              go_wp2
              go_roundw
              case rel => exact ⟨k + 1, by omega, by go_num, BM2, PB, RB, Lib.hid hB2⟩
              case measure => simp [intOf]; omega
        · have hkNN : k = NN := by omega
          have HR : Hid (SlRows nvV 2 x1 (some ⟨mb, 0, none⟩) (rvG rwS gF vF sF gn NN)) := Lib.hid (by have := box_sl BM.out; rwa [hkNN] at this)
          by_cases hd : dn = 0
          · have hd1 : ¬ (0 : Int) < (dn : Int) := by omega
            have hd2 : ¬ 0 < dn := by omega
            by_cases hkS : (k : Int) ≤ S
            · clear hkNN hd BM
              go_wp2
              go_ret
              first | exact ⟨mb, cm, rfl, HR.out, by omega, hB1⟩ | exact ⟨mb, ⟨cm, rfl⟩, HR.out, by omega, hB1⟩
            · clear hkNN hd BM
              go_wp2
              go_ret
              first | exact ⟨mb, cm, rfl, HR.out, by omega, hB1⟩ | exact ⟨mb, ⟨cm, rfl⟩, HR.out, by omega, hB1⟩
          · have hkS : ¬ (k : Int) ≤ S := by have h := ndN_ge (D := D) (by have := hdn.out; omega); rw [hNN.out, ← hdn.out, hS.out, ← hkNN] at h; exact h
            clear hkNN hd BM
            go_wp2
            go_ret
            first | exact ⟨mb, cm, rfl, HR.out, by omega, hB1⟩ | exact ⟨mb, ⟨cm, rfl⟩, HR.out, by omega, hB1⟩
end Go.Proofs.YtijdphlejokijaaGreat
