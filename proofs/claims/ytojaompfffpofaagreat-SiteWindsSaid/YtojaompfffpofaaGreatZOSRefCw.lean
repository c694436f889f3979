import Derived.Test.YtojaompfffpofaaGreatZOSRefCa
import Derived.Test.YtojaompfffpofaaGreatZOSRefCm
import Derived.Outline
namespace Go.Proofs.YtojaompfffpofaaGreat
open Go.ChangeShapes Go.WideShapes Go.ChangeAt Go.RowKit
set_option linter.unusedVariables false
set_option linter.unusedSimpArgs false
attribute [local go_sem ↓] Go.wp_at_zero Go.wp_at_succ
structure CmS (M : List Int) (a b : Int) (w X : World) : Prop where
  sh : ∀ k, k < 8 → X.cell? ⟨w.heap.size, k, none⟩ = some (.int .i64 (M.getD k 0))
  c0 : X.cell? ⟨w.heap.size + 1, 0, none⟩ = some (.int .i64 a)
  c1 : X.cell? ⟨w.heap.size + 1, 1, none⟩ = some (.int .i64 b)
  be : Below w.heap.size w X
  lt : w.heap.size + 1 < X.heap.size
theorem CmS.below {M : List Int} {a b : Int} {w X X' : World} (h : CmS M a b w X) (hb : Below X.heap.size X X') : CmS M a b w X' := by
  have z := hb.size
  have l' := h.lt
  have l0 : w.heap.size < X.heap.size := by omega
  exact ⟨fun k hk => (hb.cell (p := ⟨w.heap.size, k, none⟩) l0).trans (h.sh k hk), (hb.cell (p := ⟨w.heap.size + 1, 0, none⟩) l').trans h.c0, (hb.cell (p := ⟨w.heap.size + 1, 1, none⟩) l').trans h.c1, h.be.trans (hb.mono h.be.size), by omega⟩
set_option maxRecDepth 100000 in
set_option maxHeartbeats 4000000 in
theorem refCalm_is (L : List Wi) (A : Option Addr) (n cap N : Nat) (M : List Int) (s0 s1 s2 s3 s4 s5 s6 s7 a b : Int) (w : World) (hM : Hid (M = [s0, s1, s2, s3, s4, s5, s6, s7])) (hn : Hid (n = L.length)) (n1 : n ≤ 1000000) (HL : Hid (SlRows wiV 3 w A L)) (hF : Hid (wndE L = 0)) (a0 : 0 ≤ a) (ab : a ≤ b) (b1 : b ≤ 1000000) (hs3 : b - a < 3000) (hN : Hid ((N : Int) = b - a + 1)) :
    Calls Tryz.prog 41 #[.agg #[.int .i64 s0, .int .i64 s1, .int .i64 s2, .int .i64 s3, .int .i64 s4, .int .i64 s5, .int .i64 s6, .int .i64 s7], .slice A n cap, .agg #[.int .i64 a, .int .i64 b]] w (RwP (rwL a (fun k => calG M L n (a + (k : Int))) N) w) := by
  obtain ⟨w0, w60, hok', hs'⟩ := wndE_ok hF.out
  have hok : Hid (∀ k, k < L.length → (0 ≤ (L.getD k default).s ∧ (L.getD k default).s ≤ 7)) := Lib.hid fun k hk => (hok' k hk).2.1
  have hs := Lib.hid hs'
  have n0 : 0 < n := by rw [hn.out]; exact w0
  have HR : Hid (∀ w' : World, Below w.heap.size w w' → SlRows wiV 3 w' A L) := Lib.hid fun w' hB => HL.out.below hB
  obtain ⟨f, hf⟩ : ∃ f : Nat → Bool, f = fun (k : Nat) => calG M L n (a + (k : Int)) := ⟨_, rfl⟩
  rw [← hf]
  have HF := Lib.hid hf
  clear hf
  obtain ⟨i0, hi, hz0, hz1, hz2⟩ := info_partsS infoBo
  have HI := Lib.hid hi
  have HZ0 := Lib.hid hz0
  have HZ1 := Lib.hid hz1
  have HZ2 := Lib.hid hz2
  clear hi hz0 hz1 hz2 HL hok' hs' w0 w60
  go_enter Tryz.func41, Tryz.ntmps41
  go_upto_region 1 with (fail)
  refine wp_world (CmS M a b w) ⟨(by rw [hM.out]; refine eight ?_ ?_ ?_ ?_ ?_ ?_ ?_ ?_ <;> simp [go_sem, World.cell?_alloc_past]), by simp [go_sem, World.cell?_alloc_past], by simp [go_sem, World.cell?_alloc_past], (by (repeat (first | (with_reducible refine Below.drew ?_) | (with_reducible refine below_drewN ?_ _) | (with_reducible refine Below.alloc ?_ (by first | omega | (simp; done) | (simp; omega) | (simp at *; omega)) _) | (with_reducible refine Below.setCell ?_ (by first | omega | (simp; done) | (simp; omega) | (simp at *; omega)) _) | (with_reducible exact Below.refl _ _) | (with_reducible assumption) | (with_reducible refine Below.trans ?_ (Below.mono (by assumption) (by first | omega | (simp; done) | (simp; omega) | (simp at *; omega))))))), by simp⟩ (fun b0 hu => ?_)
  have HU := Lib.hid hu
  have hu0 := hu.c0
  have hbl0 := hu.lt
  clear hu
  go_wp2
  go_loopw [7, 8] (fun st i wr => ∃ (k : Nat) (G : Option Addr) (cg : Nat), st = .slice G k cg ∧ i = .int .i64 (a + (k : Int)) ∧ (k : Int) ≤ b - a + 1 ∧ Hid (wr.ownsRow b0.heap.size 4 1 (.slice G k cg) k (rowsV boV (setL f k))) ∧ Below b0.heap.size b0 wr) (fun _ i _ => (b + 1 - intOf i).toNat)
  case atStart => exact ⟨0, none, 0, rfl, by simp, by omega, Lib.hid ⟨rfl, .inl ⟨rfl, rfl⟩⟩, (by (repeat (first | (with_reducible refine Below.drew ?_) | (with_reducible refine below_drewN ?_ _) | (with_reducible refine Below.alloc ?_ (by first | omega | (simp; done) | (simp; omega) | (simp at *; omega)) _) | (with_reducible refine Below.setCell ?_ (by first | omega | (simp; done) | (simp; omega) | (simp at *; omega)) _) | (with_reducible exact Below.refl _ _) | (with_reducible assumption) | (with_reducible refine Below.trans ?_ (Below.mono (by assumption) (by first | omega | (simp; done) | (simp; omega) | (simp at *; omega)))))))⟩
  case round =>
    obtain ⟨k, G, cg, rfl, rfl, hk, HO, hB⟩ := hrel
    have hsz := hB.size
    have hS := HU.out.below hB
    have c0 := hS.c0
    have c1 := hS.c1
    have hlt := hS.lt
    by_cases hkb : a + (k : Int) ≤ b
    · have ek : IntKind.i64.wrap (a + (k : Int) + 1) = a + (k : Int) + 1 := IntWalk.i64_in _ (by omega)
      have HRW : Hid (rowsV boV (setL f (k + 1)) = rowsV boV (setL f k) ++ [.bool (f k)]) := Lib.hid (by rw [setL_succ, rowsV_app]; rfl)
      have HG : Hid (∀ r, (Value.slice G k cg).ownBlock = some r → b0.heap.size ≤ r ∧ r < wr.heap.size) := Lib.hid fun r hr => own_block HO.out r hr
      obtain ⟨⟨xf, xs, xo⟩, hx⟩ : ∃ x, Hid (atW L (a + (k : Int)) n = x) := ⟨_, Lib.hid rfl⟩
      have hsec := atW_s (m := a + (k : Int)) hn.out hok.out
      rw [hx.out] at hsec
      dsimp only at hsec
      obtain ⟨q, rfl⟩ : ∃ q : Nat, xs = (q : Int) := ⟨xs.toNat, by omega⟩
      have q8 : q < 8 := by omega
      have qi : (q : Int) < 8 := by omega
      obtain ⟨v, hv8⟩ : ∃ v, Hid (M.getD q 0 = v) := ⟨_, Lib.hid rfl⟩
      clear hsec
      by_cases ht : begU L (a + (k : Int)) n = 0
      · have hD : Hid (decide (begU L (a + (k : Int)) n ≠ 0) = false) := Lib.hid (by rw [ht]; rfl)
        have hv : Hid (f k = false) := Lib.hid (by rw [HF.out]; exact calG_0 ht)
        clear ht
        go_wp2_with fail
        refine (refWat_is L A n cap (a + (k : Int)) ⟨xf, q, xo⟩ false _ hn n0 n1 (Lib.hid (HR.out _ hS.be)) hs hx hD).mono ?_
        rintro e x1 ⟨rfl, hb1⟩
        have hS1 := HU.out.below (hB.trans (hb1.mono hsz))
        have hBx : Below b0.heap.size b0 x1 := hB.trans (hb1.mono hsz)
        have z1 := hb1.size
        have HO1 := Lib.hid (own_below HO.out hb1 (Nat.le_refl _))
        have hl1 := hS1.lt
        have hsh := hS1.sh q q8
        rw [hv8.out] at hsh
        clear hb1
        go_upto_region 6 with (fail)
        refine wp_world (WnS xf q xo x1) ⟨by simp [go_sem], by simp [go_sem], by simp [go_sem], (by (repeat (first | (with_reducible refine Below.drew ?_) | (with_reducible refine below_drewN ?_ _) | (with_reducible refine Below.alloc ?_ (by first | omega | (simp; done) | (simp; omega) | (simp at *; omega)) _) | (with_reducible refine Below.setCell ?_ (by first | omega | (simp; done) | (simp; omega) | (simp at *; omega)) _) | (with_reducible exact Below.refl _ _) | (with_reducible assumption) | (with_reducible refine Below.trans ?_ (Below.mono (by assumption) (by first | omega | (simp; done) | (simp; omega) | (simp at *; omega))))))), by simp⟩ (fun u hu => ?_)
        obtain ⟨e0, e1, e2, hbu, hlu⟩ := hu
        have HO2 := Lib.hid (own_below HO1.out hbu (Nat.le_refl _))
        have hBu : Below b0.heap.size b0 u := hBx.trans (hbu.mono hBx.size)
        clear hsh e0 e1 e2 hbu HO1 hS1 hS
        refine wp_region_held_drew (S := (fun _ => True)) (by kernel_rfl) (by trivial) (fun hHeld => ?_)
        have hT0 : Below u.heap.size u u.drew := (Below.refl _ _).drew
        generalize hdr : u.drew = v0 at *
        clear hdr
        refine tkH 0 ⟨some 25, _, _, _, _, _⟩ ?_ rfl ?_ (by assumption) ?_
        rotate_left
        · (intro w hSw; (try dsimp only at hSw); go_simp; all_goals with_reducible rfl)
        try simp only [Act.put, sA, sB, sC]
        refine tkH 1 ⟨some 26, _, _, _, _, _⟩ ?_ rfl ?_ (by assumption) ?_
        rotate_left
        · (intro w hSw; (try dsimp only at hSw); go_simp; all_goals with_reducible rfl)
        try simp only [Act.put, sA, sB, sC]
        refine tkH 2 ⟨some 27, _, _, _, _, _⟩ ?_ rfl ?_ (by assumption) ?_
        rotate_left
        · (intro w hSw; (try dsimp only at hSw); go_simp; all_goals with_reducible rfl)
        try simp only [Act.put, sA, sB, sC]
        refine skH 3 ⟨some 28, _, _, _, _, _⟩ rfl (by assumption) ?_
        try simp only [Act.put, sA, sB, sC]
        refine skH 4 ⟨some 29, _, _, _, _, _⟩ rfl (by assumption) ?_
        try simp only [Act.put, sA, sB, sC]
        refine skH 5 ⟨some 30, _, _, _, _, _⟩ rfl (by assumption) ?_
        try simp only [Act.put, sA, sB, sC]
        refine skH 6 ⟨some 31, _, _, _, _, _⟩ rfl (by assumption) ?_
        try simp only [Act.put, sA, sB, sC]
        refine skH 7 ⟨some 32, _, _, _, _, _⟩ rfl (by assumption) ?_
        try simp only [Act.put, sA, sB, sC]
        refine skH 8 ⟨some 33, _, _, _, _, _⟩ rfl (by assumption) ?_
        try simp only [Act.put, sA, sB, sC]
        refine skH 9 ⟨some 34, _, _, _, _, _⟩ rfl (by assumption) ?_
        try simp only [Act.put, sA, sB, sC]
        refine skH 10 ⟨some 35, _, _, _, _, _⟩ rfl (by assumption) ?_
        try simp only [Act.put, sA, sB, sC]
        refine tkH 11 ⟨some 36, _, _, _, _, _⟩ ?_ rfl ?_ (by assumption) ?_
        rotate_left
        · (intro w hSw; (try dsimp only at hSw); go_simp; all_goals with_reducible rfl)
        try simp only [Act.put, sA, sB, sC]
        refine wpAnyH_ready (rs := [12]) (by kernel_rfl) (by simp) ?_
        refine AllReadyH.cons rfl (fun K hK => ?_) (AllReadyH.nil)
        go_simp
        go_wp2_with fail
        refine hK.out _ _ trivial (fun hHeld => ?_)
        clear hK K
        try simp only [Act.put, sA, sB, sC]
        obtain ⟨bm, ebm⟩ : ∃ x, v0.heap.size = x := ⟨_, rfl⟩
        generalize hq1 : v0.alloc (.cells #[.bool false] 4) = v1
        have hb1 : Below v0.heap.size v0 v1 := by rw [← hq1]; exact (Below.refl _ _).alloc (Nat.le_refl _) _
        have hT1 : Below u.heap.size u v1 := hT0.trans (hb1.mono hT0.size)
        have HM : Hid (v1.cell? ⟨bm, 0, none⟩ = some (.bool false) ∧ bm < v1.heap.size) := Lib.hid (by rw [← hq1, ← ebm]; exact ⟨by simp [go_sem], by simp⟩)
        rw [ebm]
        clear hq1 hb1
        refine wpAnyH_ready (rs := [13]) (by kernel_rfl) (by simp) ?_
        refine AllReadyH.cons rfl (fun K hK => ?_) (AllReadyH.nil)
        rw [if_pos (by kernel_rfl)]
        have HX : Hid (∀ ad : Addr, some (⟨bm, 0, none⟩ : Addr) = some ad → ∀ j y, [Value.bool false][j]? = some y → v1.cell? (ad.add j) = some y) := Lib.hid (fun ad had j y hj => by cases had; match j, hj with | 0, hj => simp at hj; subst hj; exact HM.out.1)
        have HOV := Lib.hid (own_below HO2.out hT1 (Nat.le_refl _))
        have hv1 := hT1.size
        refine oper_append_sl _ _ 126 rfl b0.heap.size 4 i0 (.bool false) 1 1 Tryz.underlying126 HI.out HZ0.out HZ1.out HZ2.out rfl (by decide) _ k (rowsV boV (setL f k)) rfl HOV.out (some ⟨bm, 0, none⟩) 1 1 [.bool false] rfl (fun h => by cases h) rfl HX.out (by intro y hy; simp at hy; subst hy; rfl) ?d1 ?d2 (by omega) ?_
        case d1 => unfold maxLen; omega
        case d2 => omega
        intro r5 v2 hown hgrow hblk
        have hB5 : Below b0.heap.size b0 v2 := Below.grown (hBu.trans (hT1.mono hBu.size)) hgrow (by omega) (fun r hr => (HG.out r hr).1)
        have hown2 : v2.ownsRow b0.heap.size 4 1 r5 (setL f (k + 1)).length (rowsV boV (setL f (k + 1))) := by rw [HRW.out, setL_len, hv.out]; exact hown
        obtain ⟨G5, cg5, hv5, _, _, _, _, _⟩ := SlRows_own (f := boV) (n := 1) (fun _ => rfl) hown2
        rw [setL_len] at hv5
        subst hv5
        have HO5 : Hid (v2.ownsRow b0.heap.size 4 1 (.slice G5 (k + 1) cg5) (k + 1) (rowsV boV (setL f (k + 1)))) := Lib.hid (by rw [setL_len] at hown2; exact hown2)
        clear hown hown2 hblk hgrow
        refine hK.out _ _ trivial (fun hHeld => ?_)
        clear hK K
        try simp only [Act.put, sA, sB, sC]
        refine tkH 14 ⟨some 7, _, _, _, _, _⟩ ?_ rfl ?_ (by assumption) ?_
        rotate_left
        · (intro w hSw; (try dsimp only at hSw); go_simp; all_goals with_reducible rfl)
        try simp only [Act.put, sA, sB, sC]
        refine wpAnyH_done (by kernel_rfl) ?_ _
        go_wp2
        go_roundw
        case rel => exact ⟨k + 1, G5, cg5, rfl, by first | rfl | (simp; omega) | (congr 1; omega), by omega, HO5, hB5⟩
        case measure => (simp [intOf]) <;> omega
      · have hD : Hid (decide (begU L (a + (k : Int)) n ≠ 0) = true) := Lib.hid (decide_eq_true ht)
        have hp0 : f k = decide (xo ≤ v) := by
          rw [HF.out]
          show calG M L n (a + (k : Int)) = _
          rw [calG_1 ht, hx.out]
          dsimp only
          rw [show ((q : Int)).toNat = q from rfl, hv8.out]
        clear ht
        by_cases hle : xo ≤ v
        · have j0 : decide (xo ≤ v) = true := by simpa using hle
          have hv : Hid (f k = true) := Lib.hid (by rw [hp0]; exact j0)
          clear hp0
          go_wp2_with fail
          refine (refWat_is L A n cap (a + (k : Int)) ⟨xf, q, xo⟩ true _ hn n0 n1 (Lib.hid (HR.out _ hS.be)) hs hx hD).mono ?_
          rintro e x1 ⟨rfl, hb1⟩
          have hS1 := HU.out.below (hB.trans (hb1.mono hsz))
          have hBx : Below b0.heap.size b0 x1 := hB.trans (hb1.mono hsz)
          have z1 := hb1.size
          have HO1 := Lib.hid (own_below HO.out hb1 (Nat.le_refl _))
          have hl1 := hS1.lt
          have hsh := hS1.sh q q8
          rw [hv8.out] at hsh
          clear hb1
          go_upto_region 6 with (fail)
          refine wp_world (WnS xf q xo x1) ⟨by simp [go_sem], by simp [go_sem], by simp [go_sem], (by (repeat (first | (with_reducible refine Below.drew ?_) | (with_reducible refine below_drewN ?_ _) | (with_reducible refine Below.alloc ?_ (by first | omega | (simp; done) | (simp; omega) | (simp at *; omega)) _) | (with_reducible refine Below.setCell ?_ (by first | omega | (simp; done) | (simp; omega) | (simp at *; omega)) _) | (with_reducible exact Below.refl _ _) | (with_reducible assumption) | (with_reducible refine Below.trans ?_ (Below.mono (by assumption) (by first | omega | (simp; done) | (simp; omega) | (simp at *; omega))))))), by simp⟩ (fun u hu => ?_)
          obtain ⟨e0, e1, e2, hbu, hlu⟩ := hu
          have HO2 := Lib.hid (own_below HO1.out hbu (Nat.le_refl _))
          have hBu : Below b0.heap.size b0 u := hBx.trans (hbu.mono hBx.size)
          have hshu := (hbu.cell (p := ⟨w.heap.size, q, none⟩) (show w.heap.size < x1.heap.size by omega)).trans hsh
          have HSK : Hid (∀ X, Below u.heap.size u X → X.cell? ⟨x1.heap.size, 1, none⟩ = some (.int .i64 q) ∧ X.cell? ⟨x1.heap.size, 2, none⟩ = some (.int .i64 xo) ∧ X.cell? ⟨w.heap.size, q, none⟩ = some (.int .i64 v)) := Lib.hid fun X hX => ⟨(hX.cell (p := ⟨x1.heap.size, 1, none⟩) hlu).trans e1, (hX.cell (p := ⟨x1.heap.size, 2, none⟩) hlu).trans e2, (hX.cell (p := ⟨w.heap.size, q, none⟩) (show w.heap.size < u.heap.size by omega)).trans hshu⟩
          clear hshu
          clear hsh e0 e1 e2 hbu HO1 hS1 hS
          refine wp_region_held_drew (S := (fun w' => w'.cell? ⟨x1.heap.size, 1, none⟩ = some (.int .i64 q) ∧ w'.cell? ⟨x1.heap.size, 2, none⟩ = some (.int .i64 xo) ∧ w'.cell? ⟨w.heap.size, q, none⟩ = some (.int .i64 v))) (by kernel_rfl) (by exact HSK.out _ (Below.refl _ _).drew) (fun hHeld => ?_)
          have hT0 : Below u.heap.size u u.drew := (Below.refl _ _).drew
          generalize hdr : u.drew = v0 at *
          clear hdr
          refine tkH 0 ⟨some 25, _, _, _, _, _⟩ ?_ rfl ?_ (by assumption) ?_
          rotate_left
          · (intro w hSw; (try dsimp only at hSw); go_simp; all_goals with_reducible rfl)
          try simp only [Act.put, sA, sB, sC]
          refine tkH 1 ⟨some 26, _, _, _, _, _⟩ ?_ rfl ?_ (by assumption) ?_
          rotate_left
          · (intro w hSw; (try dsimp only at hSw); go_simp; all_goals with_reducible rfl)
          try simp only [Act.put, sA, sB, sC]
          refine tkH 2 ⟨some 27, _, _, _, _, _⟩ ?_ rfl ?_ (by assumption) ?_
          rotate_left
          · (intro w hSw; (try dsimp only at hSw); go_simp; all_goals with_reducible rfl)
          try simp only [Act.put, sA, sB, sC]
          refine tkH 3 ⟨some 28, _, _, _, _, _⟩ ?_ rfl ?_ (by assumption) ?_
          rotate_left
          · (intro w hSw; (try dsimp only at hSw); go_simp; all_goals with_reducible rfl)
          try simp only [Act.put, sA, sB, sC]
          refine tkH 4 ⟨some 29, _, _, _, _, _⟩ ?_ rfl ?_ (by assumption) ?_
          rotate_left
          · (intro w hSw; (try dsimp only at hSw); go_simp; all_goals with_reducible rfl)
          try simp only [Act.put, sA, sB, sC]
          refine tkH 5 ⟨some 30, _, _, _, _, _⟩ ?_ rfl ?_ (by assumption) ?_
          rotate_left
          · (intro w hSw; (try dsimp only at hSw); go_simp; all_goals with_reducible rfl)
          try simp only [Act.put, sA, sB, sC]
          refine tkH 6 ⟨some 31, _, _, _, _, _⟩ ?_ rfl ?_ (by assumption) ?_
          rotate_left
          · (intro w hSw; (try dsimp only at hSw); go_simp; all_goals with_reducible rfl)
          try simp only [Act.put, sA, sB, sC]
          refine tkH 7 ⟨some 32, _, _, _, _, _⟩ ?_ rfl ?_ (by assumption) ?_
          rotate_left
          · (intro w hSw; (try dsimp only at hSw); go_simp; all_goals with_reducible rfl)
          try simp only [Act.put, sA, sB, sC]
          refine tkH 8 ⟨some 33, _, _, _, _, _⟩ ?_ rfl ?_ (by assumption) ?_
          rotate_left
          · (intro w hSw; (try dsimp only at hSw); go_simp; all_goals with_reducible rfl)
          try simp only [Act.put, sA, sB, sC]
          refine tkH 9 ⟨some 34, _, _, _, _, _⟩ ?_ rfl ?_ (by assumption) ?_
          rotate_left
          · (intro w hSw; (try dsimp only at hSw); go_simp; all_goals with_reducible rfl)
          try simp only [Act.put, sA, sB, sC]
          refine tkH 10 ⟨some 35, _, _, _, _, _⟩ ?_ rfl ?_ (by assumption) ?_
          rotate_left
          · (intro w hSw; (try dsimp only at hSw); go_simp; all_goals with_reducible rfl)
          try simp only [Act.put, sA, sB, sC]
          try rw [j0] at *
          refine tkH 11 ⟨some 36, _, _, _, _, _⟩ ?_ rfl ?_ (by assumption) ?_
          rotate_left
          · (intro w hSw; (try dsimp only at hSw); go_simp; all_goals with_reducible rfl)
          try simp only [Act.put, sA, sB, sC]
          refine wpAnyH_ready (rs := [12]) (by kernel_rfl) (by simp) ?_
          refine AllReadyH.cons rfl (fun K hK => ?_) (AllReadyH.nil)
          go_simp
          go_wp2_with fail
          refine hK.out _ _ (HSK.out _ (hT0.alloc hT0.size _)) (fun hHeld => ?_)
          clear hK K
          try simp only [Act.put, sA, sB, sC]
          obtain ⟨bm, ebm⟩ : ∃ x, v0.heap.size = x := ⟨_, rfl⟩
          generalize hq1 : v0.alloc (.cells #[.bool true] 4) = v1
          have hb1 : Below v0.heap.size v0 v1 := by rw [← hq1]; exact (Below.refl _ _).alloc (Nat.le_refl _) _
          have hT1 : Below u.heap.size u v1 := hT0.trans (hb1.mono hT0.size)
          have HM : Hid (v1.cell? ⟨bm, 0, none⟩ = some (.bool true) ∧ bm < v1.heap.size) := Lib.hid (by rw [← hq1, ← ebm]; exact ⟨by simp [go_sem], by simp⟩)
          rw [ebm]
          clear hq1 hb1
          refine wpAnyH_ready (rs := [13]) (by kernel_rfl) (by simp) ?_
          refine AllReadyH.cons rfl (fun K hK => ?_) (AllReadyH.nil)
          rw [if_pos (by kernel_rfl)]
          have HX : Hid (∀ ad : Addr, some (⟨bm, 0, none⟩ : Addr) = some ad → ∀ j y, [Value.bool true][j]? = some y → v1.cell? (ad.add j) = some y) := Lib.hid (fun ad had j y hj => by cases had; match j, hj with | 0, hj => simp at hj; subst hj; exact HM.out.1)
          have HOV := Lib.hid (own_below HO2.out hT1 (Nat.le_refl _))
          have hv1 := hT1.size
          refine oper_append_sl _ _ 126 rfl b0.heap.size 4 i0 (.bool false) 1 1 Tryz.underlying126 HI.out HZ0.out HZ1.out HZ2.out rfl (by decide) _ k (rowsV boV (setL f k)) rfl HOV.out (some ⟨bm, 0, none⟩) 1 1 [.bool true] rfl (fun h => by cases h) rfl HX.out (by intro y hy; simp at hy; subst hy; rfl) ?d1 ?d2 (by omega) ?_
          case d1 => unfold maxLen; omega
          case d2 => omega
          intro r5 v2 hown hgrow hblk
          have hB5 : Below b0.heap.size b0 v2 := Below.grown (hBu.trans (hT1.mono hBu.size)) hgrow (by omega) (fun r hr => (HG.out r hr).1)
          have hown2 : v2.ownsRow b0.heap.size 4 1 r5 (setL f (k + 1)).length (rowsV boV (setL f (k + 1))) := by rw [HRW.out, setL_len, hv.out]; exact hown
          obtain ⟨G5, cg5, hv5, _, _, _, _, _⟩ := SlRows_own (f := boV) (n := 1) (fun _ => rfl) hown2
          rw [setL_len] at hv5
          subst hv5
          have HO5 : Hid (v2.ownsRow b0.heap.size 4 1 (.slice G5 (k + 1) cg5) (k + 1) (rowsV boV (setL f (k + 1)))) := Lib.hid (by rw [setL_len] at hown2; exact hown2)
          have hbx : x1.heap.size < v1.heap.size := by omega
          have hbs : w.heap.size < v1.heap.size := by omega
          have hk1 := (HSK.out _ hT1)
          have hSv : v2.cell? ⟨x1.heap.size, 1, none⟩ = some (.int .i64 q) ∧ v2.cell? ⟨x1.heap.size, 2, none⟩ = some (.int .i64 xo) ∧ v2.cell? ⟨w.heap.size, q, none⟩ = some (.int .i64 v) := ⟨(World.cell?_of_block (a := ⟨x1.heap.size, 1, none⟩) (hgrow.block x1.heap.size hbx (fun hh => by have := (HG.out _ hh.symm).2; omega))).trans hk1.1, (World.cell?_of_block (a := ⟨x1.heap.size, 2, none⟩) (hgrow.block x1.heap.size hbx (fun hh => by have := (HG.out _ hh.symm).2; omega))).trans hk1.2.1, (World.cell?_of_block (a := ⟨w.heap.size, q, none⟩) (hgrow.block w.heap.size hbs (fun hh => by have := (HG.out _ hh.symm).1; omega))).trans hk1.2.2⟩
          clear hown hown2 hblk hgrow
          refine hK.out _ _ hSv (fun hHeld => ?_)
          clear hK K
          try simp only [Act.put, sA, sB, sC]
          clear hSv hk1
          refine tkH 14 ⟨some 7, _, _, _, _, _⟩ ?_ rfl ?_ (by assumption) ?_
          rotate_left
          · (intro w hSw; (try dsimp only at hSw); go_simp; all_goals with_reducible rfl)
          try simp only [Act.put, sA, sB, sC]
          refine wpAnyH_done (by kernel_rfl) ?_ _
          go_wp2
          go_roundw
          case rel => exact ⟨k + 1, G5, cg5, rfl, by first | rfl | (simp; omega) | (congr 1; omega), by omega, HO5, hB5⟩
          case measure => (simp [intOf]) <;> omega
        · have j0 : decide (xo ≤ v) = false := by simpa using hle
          have j9 : v < xo := by omega
          have hv : Hid (f k = false) := Lib.hid (by rw [hp0]; exact j0)
          clear hp0
          go_wp2_with fail
          refine (refWat_is L A n cap (a + (k : Int)) ⟨xf, q, xo⟩ true _ hn n0 n1 (Lib.hid (HR.out _ hS.be)) hs hx hD).mono ?_
          rintro e x1 ⟨rfl, hb1⟩
          have hS1 := HU.out.below (hB.trans (hb1.mono hsz))
          have hBx : Below b0.heap.size b0 x1 := hB.trans (hb1.mono hsz)
          have z1 := hb1.size
          have HO1 := Lib.hid (own_below HO.out hb1 (Nat.le_refl _))
          have hl1 := hS1.lt
          have hsh := hS1.sh q q8
          rw [hv8.out] at hsh
          clear hb1
          go_upto_region 6 with (fail)
          refine wp_world (WnS xf q xo x1) ⟨by simp [go_sem], by simp [go_sem], by simp [go_sem], (by (repeat (first | (with_reducible refine Below.drew ?_) | (with_reducible refine below_drewN ?_ _) | (with_reducible refine Below.alloc ?_ (by first | omega | (simp; done) | (simp; omega) | (simp at *; omega)) _) | (with_reducible refine Below.setCell ?_ (by first | omega | (simp; done) | (simp; omega) | (simp at *; omega)) _) | (with_reducible exact Below.refl _ _) | (with_reducible assumption) | (with_reducible refine Below.trans ?_ (Below.mono (by assumption) (by first | omega | (simp; done) | (simp; omega) | (simp at *; omega))))))), by simp⟩ (fun u hu => ?_)
          obtain ⟨e0, e1, e2, hbu, hlu⟩ := hu
          have HO2 := Lib.hid (own_below HO1.out hbu (Nat.le_refl _))
          have hBu : Below b0.heap.size b0 u := hBx.trans (hbu.mono hBx.size)
          have hshu := (hbu.cell (p := ⟨w.heap.size, q, none⟩) (show w.heap.size < x1.heap.size by omega)).trans hsh
          have HSK : Hid (∀ X, Below u.heap.size u X → X.cell? ⟨x1.heap.size, 1, none⟩ = some (.int .i64 q) ∧ X.cell? ⟨x1.heap.size, 2, none⟩ = some (.int .i64 xo) ∧ X.cell? ⟨w.heap.size, q, none⟩ = some (.int .i64 v)) := Lib.hid fun X hX => ⟨(hX.cell (p := ⟨x1.heap.size, 1, none⟩) hlu).trans e1, (hX.cell (p := ⟨x1.heap.size, 2, none⟩) hlu).trans e2, (hX.cell (p := ⟨w.heap.size, q, none⟩) (show w.heap.size < u.heap.size by omega)).trans hshu⟩
          clear hshu
          clear hsh e0 e1 e2 hbu HO1 hS1 hS
          refine wp_region_held_drew (S := (fun w' => w'.cell? ⟨x1.heap.size, 1, none⟩ = some (.int .i64 q) ∧ w'.cell? ⟨x1.heap.size, 2, none⟩ = some (.int .i64 xo) ∧ w'.cell? ⟨w.heap.size, q, none⟩ = some (.int .i64 v))) (by kernel_rfl) (by exact HSK.out _ (Below.refl _ _).drew) (fun hHeld => ?_)
          have hT0 : Below u.heap.size u u.drew := (Below.refl _ _).drew
          generalize hdr : u.drew = v0 at *
          clear hdr
          refine tkH 0 ⟨some 25, _, _, _, _, _⟩ ?_ rfl ?_ (by assumption) ?_
          rotate_left
          · (intro w hSw; (try dsimp only at hSw); go_simp; all_goals with_reducible rfl)
          try simp only [Act.put, sA, sB, sC]
          refine tkH 1 ⟨some 26, _, _, _, _, _⟩ ?_ rfl ?_ (by assumption) ?_
          rotate_left
          · (intro w hSw; (try dsimp only at hSw); go_simp; all_goals with_reducible rfl)
          try simp only [Act.put, sA, sB, sC]
          refine tkH 2 ⟨some 27, _, _, _, _, _⟩ ?_ rfl ?_ (by assumption) ?_
          rotate_left
          · (intro w hSw; (try dsimp only at hSw); go_simp; all_goals with_reducible rfl)
          try simp only [Act.put, sA, sB, sC]
          refine tkH 3 ⟨some 28, _, _, _, _, _⟩ ?_ rfl ?_ (by assumption) ?_
          rotate_left
          · (intro w hSw; (try dsimp only at hSw); go_simp; all_goals with_reducible rfl)
          try simp only [Act.put, sA, sB, sC]
          refine tkH 4 ⟨some 29, _, _, _, _, _⟩ ?_ rfl ?_ (by assumption) ?_
          rotate_left
          · (intro w hSw; (try dsimp only at hSw); go_simp; all_goals with_reducible rfl)
          try simp only [Act.put, sA, sB, sC]
          refine tkH 5 ⟨some 30, _, _, _, _, _⟩ ?_ rfl ?_ (by assumption) ?_
          rotate_left
          · (intro w hSw; (try dsimp only at hSw); go_simp; all_goals with_reducible rfl)
          try simp only [Act.put, sA, sB, sC]
          refine tkH 6 ⟨some 31, _, _, _, _, _⟩ ?_ rfl ?_ (by assumption) ?_
          rotate_left
          · (intro w hSw; (try dsimp only at hSw); go_simp; all_goals with_reducible rfl)
          try simp only [Act.put, sA, sB, sC]
          refine tkH 7 ⟨some 32, _, _, _, _, _⟩ ?_ rfl ?_ (by assumption) ?_
          rotate_left
          · (intro w hSw; (try dsimp only at hSw); go_simp; all_goals with_reducible rfl)
          try simp only [Act.put, sA, sB, sC]
          refine tkH 8 ⟨some 33, _, _, _, _, _⟩ ?_ rfl ?_ (by assumption) ?_
          rotate_left
          · (intro w hSw; (try dsimp only at hSw); go_simp; all_goals with_reducible rfl)
          try simp only [Act.put, sA, sB, sC]
          refine tkH 9 ⟨some 34, _, _, _, _, _⟩ ?_ rfl ?_ (by assumption) ?_
          rotate_left
          · (intro w hSw; (try dsimp only at hSw); go_simp; all_goals with_reducible rfl)
          try simp only [Act.put, sA, sB, sC]
          refine tkH 10 ⟨some 35, _, _, _, _, _⟩ ?_ rfl ?_ (by assumption) ?_
          rotate_left
          · (intro w hSw; (try dsimp only at hSw); go_simp; all_goals with_reducible rfl)
          try simp only [Act.put, sA, sB, sC]
          try rw [j0] at *
          refine tkH 11 ⟨some 36, _, _, _, _, _⟩ ?_ rfl ?_ (by assumption) ?_
          rotate_left
          · (intro w hSw; (try dsimp only at hSw); go_simp; all_goals with_reducible rfl)
          try simp only [Act.put, sA, sB, sC]
          refine wpAnyH_ready (rs := [12]) (by kernel_rfl) (by simp) ?_
          refine AllReadyH.cons rfl (fun K hK => ?_) (AllReadyH.nil)
          go_simp
          go_wp2_with fail
          refine hK.out _ _ (HSK.out _ (hT0.alloc hT0.size _)) (fun hHeld => ?_)
          clear hK K
          try simp only [Act.put, sA, sB, sC]
          obtain ⟨bm, ebm⟩ : ∃ x, v0.heap.size = x := ⟨_, rfl⟩
          generalize hq1 : v0.alloc (.cells #[.bool false] 4) = v1
          have hb1 : Below v0.heap.size v0 v1 := by rw [← hq1]; exact (Below.refl _ _).alloc (Nat.le_refl _) _
          have hT1 : Below u.heap.size u v1 := hT0.trans (hb1.mono hT0.size)
          have HM : Hid (v1.cell? ⟨bm, 0, none⟩ = some (.bool false) ∧ bm < v1.heap.size) := Lib.hid (by rw [← hq1, ← ebm]; exact ⟨by simp [go_sem], by simp⟩)
          rw [ebm]
          clear hq1 hb1
          refine wpAnyH_ready (rs := [13]) (by kernel_rfl) (by simp) ?_
          refine AllReadyH.cons rfl (fun K hK => ?_) (AllReadyH.nil)
          rw [if_pos (by kernel_rfl)]
          have HX : Hid (∀ ad : Addr, some (⟨bm, 0, none⟩ : Addr) = some ad → ∀ j y, [Value.bool false][j]? = some y → v1.cell? (ad.add j) = some y) := Lib.hid (fun ad had j y hj => by cases had; match j, hj with | 0, hj => simp at hj; subst hj; exact HM.out.1)
          have HOV := Lib.hid (own_below HO2.out hT1 (Nat.le_refl _))
          have hv1 := hT1.size
          refine oper_append_sl _ _ 126 rfl b0.heap.size 4 i0 (.bool false) 1 1 Tryz.underlying126 HI.out HZ0.out HZ1.out HZ2.out rfl (by decide) _ k (rowsV boV (setL f k)) rfl HOV.out (some ⟨bm, 0, none⟩) 1 1 [.bool false] rfl (fun h => by cases h) rfl HX.out (by intro y hy; simp at hy; subst hy; rfl) ?d1 ?d2 (by omega) ?_
          case d1 => unfold maxLen; omega
          case d2 => omega
          intro r5 v2 hown hgrow hblk
          have hB5 : Below b0.heap.size b0 v2 := Below.grown (hBu.trans (hT1.mono hBu.size)) hgrow (by omega) (fun r hr => (HG.out r hr).1)
          have hown2 : v2.ownsRow b0.heap.size 4 1 r5 (setL f (k + 1)).length (rowsV boV (setL f (k + 1))) := by rw [HRW.out, setL_len, hv.out]; exact hown
          obtain ⟨G5, cg5, hv5, _, _, _, _, _⟩ := SlRows_own (f := boV) (n := 1) (fun _ => rfl) hown2
          rw [setL_len] at hv5
          subst hv5
          have HO5 : Hid (v2.ownsRow b0.heap.size 4 1 (.slice G5 (k + 1) cg5) (k + 1) (rowsV boV (setL f (k + 1)))) := Lib.hid (by rw [setL_len] at hown2; exact hown2)
          have hbx : x1.heap.size < v1.heap.size := by omega
          have hbs : w.heap.size < v1.heap.size := by omega
          have hk1 := (HSK.out _ hT1)
          have hSv : v2.cell? ⟨x1.heap.size, 1, none⟩ = some (.int .i64 q) ∧ v2.cell? ⟨x1.heap.size, 2, none⟩ = some (.int .i64 xo) ∧ v2.cell? ⟨w.heap.size, q, none⟩ = some (.int .i64 v) := ⟨(World.cell?_of_block (a := ⟨x1.heap.size, 1, none⟩) (hgrow.block x1.heap.size hbx (fun hh => by have := (HG.out _ hh.symm).2; omega))).trans hk1.1, (World.cell?_of_block (a := ⟨x1.heap.size, 2, none⟩) (hgrow.block x1.heap.size hbx (fun hh => by have := (HG.out _ hh.symm).2; omega))).trans hk1.2.1, (World.cell?_of_block (a := ⟨w.heap.size, q, none⟩) (hgrow.block w.heap.size hbs (fun hh => by have := (HG.out _ hh.symm).1; omega))).trans hk1.2.2⟩
          clear hown hown2 hblk hgrow
          refine hK.out _ _ hSv (fun hHeld => ?_)
          clear hK K
          try simp only [Act.put, sA, sB, sC]
          clear hSv hk1
          refine tkH 14 ⟨some 7, _, _, _, _, _⟩ ?_ rfl ?_ (by assumption) ?_
          rotate_left
          · (intro w hSw; (try dsimp only at hSw); go_simp; all_goals with_reducible rfl)
          try simp only [Act.put, sA, sB, sC]
          refine wpAnyH_done (by kernel_rfl) ?_ _
          go_wp2
          go_roundw
          case rel => exact ⟨k + 1, G5, cg5, rfl, by first | rfl | (simp; omega) | (congr 1; omega), by omega, HO5, hB5⟩
          case measure => (simp [intOf]) <;> omega
    · have hkn : k = N := by have := hN.out; omega
      have hO := HO.out
      rw [hkn] at hO
      have hown2 : wr.ownsRow b0.heap.size 4 1 (.slice G N cg) (setL f N).length (rowsV boV (setL f N)) := by rw [setL_len]; exact hO
      obtain ⟨G5, cg5, hv5, hS5, _, hn5, _, _⟩ := SlRows_own (f := boV) (n := 1) (fun _ => rfl) hown2
      injection hv5 with e1 e2 e3
      subst e1 e3
      have HS5 := Lib.hid hS5
      have HBE := Lib.hid hS.be
      have hN4 : N ≤ 100000 := by have := hN.out; omega
      clear hO hown2 hS5 hn5 e2 hS
      subst hkn
      go_wp2_with fail
      refine (refWinOf_is a f G cg k _ a0 (by omega) hN4 HS5).mono ?_
      rintro e x7 ⟨G7, cg7, rfl, hS7, hN7, hb7⟩
      have HS7 := Lib.hid hS7
      have HN7 := Lib.hid hN7
      have hB7 : Below w.heap.size w x7 := HBE.out.trans (hb7.mono HBE.out.size)
      clear hS7 hN7 hb7
      go_wp2
      go_ret
      exact ⟨G7, cg7, rfl, HS7.out, HN7.out, hB7⟩
end Go.Proofs.YtojaompfffpofaaGreat
