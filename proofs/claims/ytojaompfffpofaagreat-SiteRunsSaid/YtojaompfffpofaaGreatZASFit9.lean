import Derived.Test.YtojaompfffpofaaGreatZASFit8
import Derived.Outline
namespace Go.Proofs.YtojaompfffpofaaGreat
open Go.ChangeShapes Go.WideShapes Go.ChangeAt Go.RowKit
set_option linter.unusedVariables false
set_option linter.unusedSimpArgs false
attribute [local go_sem ↓] Go.wp_at_zero Go.wp_at_succ
/-- Lists of windows, each a slice of its own. -/
def WnAt (w : World) (b off : Nat) (W : List (List Rg)) : Prop := ∀ k, k < W.length → ∃ A cap, w.cell? ⟨b, off + k, none⟩ = some (.slice A (W.getD k []).length cap) ∧ SlRows rgV 2 w A (W.getD k [])
def SlWn (w : World) (B : Option Addr) (W : List (List Rg)) : Prop := W = [] ∨ ∃ b off, B = some ⟨b, off, none⟩ ∧ b < w.heap.size ∧ WnAt w b off W
theorem SlWn.below {w w' : World} {B : Option Addr} {W : List (List Rg)} (h : SlWn w B W) (hb : Below w.heap.size w w') : SlWn w' B W := by
  rcases h with h | ⟨b, off, rfl, hlt, h⟩
  · exact Or.inl h
  · refine Or.inr ⟨b, off, rfl, Nat.lt_of_lt_of_le hlt hb.size, fun k hk => ?_⟩
    obtain ⟨A, cap, h1, h2⟩ := h k hk
    exact ⟨A, cap, (hb.cell (p := ⟨b, _, none⟩) hlt).trans h1, h2.below hb⟩
/-- The number of the first error. -/
def fsI (f : Nat → Int) : Nat → Int
  | 0 => 0
  | k + 1 => if fsN f k = 0 then (k : Int) else fsI f k
theorem fsI_stop {f : Nat → Int} {k : Nat} (hz : fsN f k = 0) (hn : f k ≠ 0) : ∀ n, k < n → fsI f n = (k : Int)
  | 0, h => by omega
  | n + 1, h => by
    by_cases e : n = k
    · subst e; rw [fsI, if_pos hz]
    · rw [fsI, if_neg (by rw [fsN_stop hz hn n (by omega)]; exact hn)]
      exact fsI_stop hz hn n (by omega)
/-- The errors of the stops' windows. -/
def fF (W : List (List Rg)) (L : List (Int × Int)) (k : Nat) : Int := fitE (W.getD k []) (L.getD k (0, 0)).1 (L.getD k (0, 0)).2
def fitsR (W : List (List Rg)) (L : List (Int × Int)) (l : Nat) : Int := if fsN (fF W L) l = 0 then (L.getD (l - 1) (0, 0)).2 else fsI (fF W L) l
structure PrS (a b : Int) (V X : World) : Prop where
  c0 : X.cell? ⟨V.heap.size, 0, none⟩ = some (.int .i64 a)
  c1 : X.cell? ⟨V.heap.size, 1, none⟩ = some (.int .i64 b)
  be : Below V.heap.size V X
  lt : V.heap.size < X.heap.size
set_option maxRecDepth 100000 in
set_option maxHeartbeats 1000000 in
theorem RunFits_bad (A B Aq As D : Option Addr) (n m ca cb l l2 cq cs lw cw : Nat) (Pl : List ByteArray) (M : List (List Int)) (bg : Int) (Q Z : List Int) (E : Int) (w : World) (hn : Hid (n = Pl.length)) (hm : Hid (m = M.length)) (hl : n ≤ 1000000) (hl2 : m ≤ 1000000) (hl3 : l ≤ 1000000) (hl4 : l2 ≤ 1000000) (hsz : Hid (∀ s ∈ Pl, s.size ≤ 1000000)) (HP : Hid (SlRows strV 1 w A Pl)) (HM : Hid (SlMat w B M)) (hq : Hid (l = Q.length)) (hq2 : Hid (l2 = Z.length)) (HQ : Hid (SlRows intV 1 w Aq Q)) (HZ : Hid (SlRows intV 1 w As Z)) (hE : Hid (crE Pl M bg Q Z = E)) (hz : (E != 0) = true) :
    Calls Tryz.prog 51 #[.agg #[.slice A n ca, .slice B m cb], .agg #[.int .i64 bg, .slice Aq l cq, .slice As l2 cs], .slice D lw cw] w fun e w' => e = .returned (.tuple #[.int .i64 0, .int .i64 E]) ∧ Below w.heap.size w w' := by
  have hbu : Below w.heap.size w ((w.alloc (.cells #[.slice A n ca, .slice B m cb] 78)).alloc (.cells #[.int .i64 bg, .slice Aq l cq, .slice As l2 cs] 92)) := (by (repeat (first | (with_reducible refine Below.drew ?_) | (with_reducible refine below_drewN ?_ _) | (with_reducible refine Below.alloc ?_ (by first | omega | (simp; done) | (simp; omega) | (simp at *; omega)) _) | (with_reducible refine Below.setCell ?_ (by first | omega | (simp; done) | (simp; omega) | (simp at *; omega)) _) | (with_reducible exact Below.refl _ _) | (with_reducible assumption) | (with_reducible refine Below.trans ?_ (Below.mono (by assumption) (by first | omega | (simp; done) | (simp; omega) | (simp at *; omega)))))))
  have i9 : ¬ E = 0 := by simpa using hz
  go_enter Tryz.func51, Tryz.ntmps51
  go_wp2_with fail
  refine (RunTimes_bad A B Aq As n m ca cb l l2 cq cs Pl M bg Q Z E _ hn hm hl hl2 hl3 hl4 hsz (Lib.hid (HP.out.below hbu)) (Lib.hid (HM.out.below hbu)) hq hq2 (Lib.hid (HQ.out.below hbu)) (Lib.hid (HZ.out.below hbu)) hE hz).mono ?_
  rintro e w1 ⟨rfl, hb1⟩
  have hB1 : Below w.heap.size w w1 := hbu.trans (hb1.mono hbu.size)
  clear hb1 hbu
  go_wp2
  go_ret2
  exact ⟨rfl, hB1⟩
set_option maxRecDepth 100000 in
set_option maxHeartbeats 1000000 in
theorem RunFits_shape (A B Aq As D : Option Addr) (n ca cb l cq cs lw cw : Nat) (Pl : List ByteArray) (M : List (List Int)) (bg : Int) (Q Z : List Int) (w : World) (hl0 : 0 < n) (hl : n ≤ 12) (HR : Hid (RnSl w A B Aq As n l Pl M bg Q Z)) (hne : lw ≠ l) :
    Calls Tryz.prog 51 #[.agg #[.slice A n ca, .slice B n cb], .agg #[.int .i64 bg, .slice Aq l cq, .slice As l cs], .slice D lw cw] w fun e w' => e = .returned (.tuple #[.int .i64 0, .int .i64 10]) ∧ Below w.heap.size w w' := by
  have hbu : Below w.heap.size w ((w.alloc (.cells #[.slice A n ca, .slice B n cb] 78)).alloc (.cells #[.int .i64 bg, .slice Aq l cq, .slice As l cs] 92)) := (by (repeat (first | (with_reducible refine Below.drew ?_) | (with_reducible refine below_drewN ?_ _) | (with_reducible refine Below.alloc ?_ (by first | omega | (simp; done) | (simp; omega) | (simp at *; omega)) _) | (with_reducible refine Below.setCell ?_ (by first | omega | (simp; done) | (simp; omega) | (simp at *; omega)) _) | (with_reducible exact Below.refl _ _) | (with_reducible assumption) | (with_reducible refine Below.trans ?_ (Below.mono (by assumption) (by first | omega | (simp; done) | (simp; omega) | (simp at *; omega)))))))
  have e1 : ¬ (lw : Int) = (l : Int) := by omega
  have e2 : ((lw : Int) == (l : Int)) = false := by simpa using e1
  go_enter Tryz.func51, Tryz.ntmps51
  go_wp2_with fail
  refine (RunTimes_ok A B Aq As n ca cb l cq cs Pl M bg Q Z _ hl0 hl (Lib.hid (HR.out.below hbu))).mono ?_
  rintro e w1 ⟨g, cap, rfl, hg, hr, hb1⟩
  have hB1 : Below w.heap.size w w1 := hbu.trans (hb1.mono hbu.size)
  clear hb1 hbu hr
  go_wp2
  go_ret2
  exact ⟨rfl, hB1⟩
set_option maxRecDepth 100000 in
set_option maxHeartbeats 2000000 in
theorem RunFits_run (A B Aq As D : Option Addr) (n ca cb l cq cs cw : Nat) (Pl : List ByteArray) (M : List (List Int)) (bg : Int) (Q Z : List Int) (W : List (List Rg)) (L : List (Int × Int)) (E R : Int) (w : World) (hl0 : 0 < n) (hl : n ≤ 12) (HR : Hid (RnSl w A B Aq As n l Pl M bg Q Z)) (HW : Hid (SlWn w D W)) (hlw : Hid (W.length = l)) (hsm : Hid (∀ k, k < l → (W.getD k []).length ≤ 1000000)) (hL : Hid (tmsL M bg Q Z l = L)) (hE : Hid (fsN (fF W L) l = E)) (hR : Hid (fitsR W L l = R)) :
    Calls Tryz.prog 51 #[.agg #[.slice A n ca, .slice B n cb], .agg #[.int .i64 bg, .slice Aq l cq, .slice As l cs], .slice D l cw] w fun e w' => e = .returned (.tuple #[.int .i64 R, .int .i64 E]) ∧ Below w.heap.size w w' := by
  have hbu : Below w.heap.size w ((w.alloc (.cells #[.slice A n ca, .slice B n cb] 78)).alloc (.cells #[.int .i64 bg, .slice Aq l cq, .slice As l cs] 92)) := (by (repeat (first | (with_reducible refine Below.drew ?_) | (with_reducible refine below_drewN ?_ _) | (with_reducible refine Below.alloc ?_ (by first | omega | (simp; done) | (simp; omega) | (simp at *; omega)) _) | (with_reducible refine Below.setCell ?_ (by first | omega | (simp; done) | (simp; omega) | (simp at *; omega)) _) | (with_reducible exact Below.refl _ _) | (with_reducible assumption) | (with_reducible refine Below.trans ?_ (Below.mono (by assumption) (by first | omega | (simp; done) | (simp; omega) | (simp at *; omega)))))))
  have hll : Hid (L.length = l) := Lib.hid (by rw [← hL.out, tmsL_len])
  have h0l : 0 < l := by have := HR.out.ok.l0; have := HR.out.hl; omega
  have l12 : l ≤ 12 := by have := HR.out.ok.l12; have := HR.out.hl; omega
  go_enter Tryz.func51, Tryz.ntmps51
  go_wp2_with fail
  refine (RunTimes_ok A B Aq As n ca cb l cq cs Pl M bg Q Z _ hl0 hl (Lib.hid (HR.out.below hbu))).mono ?_
  rw [hL.out]
  rintro e w1 ⟨g, cap, rfl, hg, hr, hb1⟩
  have hB1 : Below w.heap.size w w1 := hbu.trans (hb1.mono hbu.size)
  have HT : Hid (∀ x, Below w1.heap.size w1 x → RowsAt prV 2 x g 0 L) := Lib.hid fun x hx k hk i hi => (hx.cell (p := ⟨g, _, none⟩) hg).trans (hr k hk i hi)
  have HWX : Hid (∀ x, Below w1.heap.size w1 x → SlWn x D W) := Lib.hid fun x hx => (HW.out.below hB1).below hx
  have HBW : Hid (∀ x, Below w1.heap.size w1 x → Below w.heap.size w x) := Lib.hid fun x hx => hB1.trans (hx.mono hB1.size)
  clear hb1 hbu hr hB1
  go_wp2
  go_loopw [29] (fun i wr => ∃ k : Nat, k ≤ l ∧ i = .int .i64 k ∧ Hid (fsN (fF W L) k = 0) ∧ Below w1.heap.size w1 wr) (fun i _ => l - (intOf i).toNat)
  case atStart => exact ⟨0, by omega, rfl, Lib.hid rfl, (by (repeat (first | (with_reducible refine Below.drew ?_) | (with_reducible refine below_drewN ?_ _) | (with_reducible refine Below.alloc ?_ (by first | omega | (simp; done) | (simp; omega) | (simp at *; omega)) _) | (with_reducible refine Below.setCell ?_ (by first | omega | (simp; done) | (simp; omega) | (simp at *; omega)) _) | (with_reducible exact Below.refl _ _) | (with_reducible assumption) | (with_reducible refine Below.trans ?_ (Below.mono (by assumption) (by first | omega | (simp; done) | (simp; omega) | (simp at *; omega)))))))⟩
  case round =>
    obtain ⟨k, hk, rfl, hz, hB⟩ := hrel
    have hsz := hB.size
    by_cases hkl : k < l
    · have kl : (k : Int) < (l : Int) := by omega
      have hkL : k < L.length := by have := hll.out; omega
      have hkW : k < W.length := by have := hlw.out; omega
      obtain ⟨p0, p1⟩ := pr_at (HT.out _ hB) hkL
      rw [Nat.zero_add] at p0 p1
      rcases HWX.out _ hB with h0 | ⟨b, off, rfl, hbl, hWt⟩
      · rw [h0] at hkW; simp at hkW
      obtain ⟨C, cc, h1, h2⟩ := hWt k hkW
      obtain ⟨⟨ta, tb⟩, hx⟩ : ∃ x, Hid (L[k] = x) := ⟨_, Lib.hid rfl⟩
      rw [hx.out] at p0 p1
      dsimp only at p0 p1
      obtain ⟨V, hV⟩ : ∃ V, Hid (W.getD k [] = V) := ⟨_, Lib.hid rfl⟩
      rw [hV.out] at h1 h2
      have hVl := hsm.out k hkl
      rw [hV.out] at hVl
      obtain ⟨F, hF⟩ : ∃ F, Hid (fitE V ta tb = F) := ⟨_, Lib.hid rfl⟩
      have hfk : Hid (fF W L k = F) := Lib.hid (by unfold fF; rw [getD_at hkL, hx.out, hV.out]; exact hF.out)
      have HV := Lib.hid h2
      have lg : g < wr.heap.size := by omega
      clear hWt h2
      go_upto_region 9 with (fail)
      refine wp_world (PrS ta tb wr) ⟨by simp [go_sem], by simp [go_sem], (by (repeat (first | (with_reducible refine Below.drew ?_) | (with_reducible refine below_drewN ?_ _) | (with_reducible refine Below.alloc ?_ (by first | omega | (simp; done) | (simp; omega) | (simp at *; omega)) _) | (with_reducible refine Below.setCell ?_ (by first | omega | (simp; done) | (simp; omega) | (simp at *; omega)) _) | (with_reducible exact Below.refl _ _) | (with_reducible assumption) | (with_reducible refine Below.trans ?_ (Below.mono (by assumption) (by first | omega | (simp; done) | (simp; omega) | (simp at *; omega))))))), by simp⟩ (fun u hu => ?_)
      obtain ⟨c0, c1, hbu, hlu⟩ := hu
      have h1u := (hbu.cell (p := ⟨b, off + k, none⟩) hbl).trans h1
      have HVU : Hid (∀ x, Below u.heap.size u x → SlRows rgV 2 x C V) := Lib.hid fun x hx => (HV.out.below hbu).below hx
      have hBu : Below w1.heap.size w1 u := hB.trans (hbu.mono hsz)
      clear h1 p0 p1 HV hbu
      rcases ez2 F with ⟨hz0, hzb⟩ | ⟨hz0, hzb⟩
      · have hz2 : Hid (fsN (fF W L) (k + 1) = 0) := Lib.hid (fsN_on hz.out (by rw [hfk.out]; exact hz0.out))
        clear hz hz0 hfk
        refine wp_region_held_drew (S := (fun w' => w'.cell? ⟨b, off + k, none⟩ = some (.slice C V.length cc) ∧ w'.cell? ⟨wr.heap.size, 0, none⟩ = some (.int .i64 ta) ∧ w'.cell? ⟨wr.heap.size, 1, none⟩ = some (.int .i64 tb))) (by kernel_rfl) (by simp [go_sem, World.cell?_alloc_past, *]) (fun hHeld => ?_)
        refine tkH 0 ⟨some 34, _, _, _, _, _⟩ ?_ rfl ?_ (by assumption) ?_
        rotate_left
        · (intro w hSw; (try dsimp only at hSw); go_simp; all_goals with_reducible rfl)
        try simp only [Act.put, sA, sB, sC]
        refine tkH 1 ⟨some 35, _, _, _, _, _⟩ ?_ rfl ?_ (by assumption) ?_
        rotate_left
        · (intro w hSw; (try dsimp only at hSw); go_simp; all_goals with_reducible rfl)
        try simp only [Act.put, sA, sB, sC]
        refine tkH 2 ⟨some 36, _, _, _, _, _⟩ ?_ rfl ?_ (by assumption) ?_
        rotate_left
        · (intro w hSw; (try dsimp only at hSw); go_simp; all_goals with_reducible rfl)
        try simp only [Act.put, sA, sB, sC]
        refine tkH 3 ⟨some 37, _, _, _, _, _⟩ ?_ rfl ?_ (by assumption) ?_
        rotate_left
        · (intro w hSw; (try dsimp only at hSw); go_simp; all_goals with_reducible rfl)
        try simp only [Act.put, sA, sB, sC]
        refine tkH 4 ⟨some 38, _, _, _, _, _⟩ ?_ rfl ?_ (by assumption) ?_
        rotate_left
        · (intro w hSw; (try dsimp only at hSw); go_simp; all_goals with_reducible rfl)
        try simp only [Act.put, sA, sB, sC]
        refine wpAnyH_ready (rs := [5]) (by kernel_rfl) (by simp) ?_
        refine AllReadyH.cons rfl (fun K hK => ?_) AllReadyH.nil
        go_simp
        refine (checkFit_any V C cc V.length ta tb F _ (Lib.hid rfl) hVl (Lib.hid (HVU.out _ (Below.refl _ _).drew)) hF).mono ?_
        rintro e y1 ⟨rfl, hyb0⟩
        have hyb : Below u.heap.size u y1 := (by (repeat (first | (with_reducible refine Below.drew ?_) | (with_reducible refine below_drewN ?_ _) | (with_reducible refine Below.alloc ?_ (by first | omega | (simp; done) | (simp; omega) | (simp at *; omega)) _) | (with_reducible refine Below.setCell ?_ (by first | omega | (simp; done) | (simp; omega) | (simp at *; omega)) _) | (with_reducible exact Below.refl _ _) | (with_reducible assumption) | (with_reducible refine Below.trans ?_ (Below.mono (by assumption) (by first | omega | (simp; done) | (simp; omega) | (simp at *; omega)))))))
        have k0 := (hyb.cell (p := ⟨wr.heap.size, 0, none⟩) hlu).trans c0
        have k1 := (hyb.cell (p := ⟨wr.heap.size, 1, none⟩) hlu).trans c1
        have k2 := (hyb.cell (p := ⟨b, off + k, none⟩) (show b < u.heap.size by omega)).trans h1u
        clear hyb0
        go_wp2_with fail
        refine hK.out _ _ (by simp [go_sem, World.cell?_alloc_past, *]) (fun hHeld => ?_)
        clear hK K
        try simp only [Act.put, sA, sB, sC]
        refine tkH 6 ⟨some 12, _, _, _, _, _⟩ ?_ rfl ?_ (by assumption) ?_
        rotate_left
        · (intro w hSw; (try dsimp only at hSw); go_simp; all_goals with_reducible rfl)
        try simp only [Act.put, sA, sB, sC]
        refine wpAnyH_done (by kernel_rfl) ?_ _
        have hB2 : Below w1.heap.size w1 y1 := hBu.trans (hyb.mono hBu.size)
        clear hyb c0 c1 h1u
        go_wp2
        go_roundw
        case rel => exact ⟨k + 1, by omega, by go_num, hz2, (by (repeat (first | (with_reducible refine Below.drew ?_) | (with_reducible refine below_drewN ?_ _) | (with_reducible refine Below.alloc ?_ (by first | omega | (simp; done) | (simp; omega) | (simp at *; omega)) _) | (with_reducible refine Below.setCell ?_ (by first | omega | (simp; done) | (simp; omega) | (simp at *; omega)) _) | (with_reducible exact Below.refl _ _) | (with_reducible assumption) | (with_reducible refine Below.trans ?_ (Below.mono (by assumption) (by first | omega | (simp; done) | (simp; omega) | (simp at *; omega)))))))⟩
        case measure => (simp [intOf]) <;> omega
      · have hr1 : Hid (F = E) := Lib.hid (by rw [← hE.out, fsN_stop hz.out (by rw [hfk.out]; exact hz0.out) l hkl, hfk.out])
        have hr2 : Hid ((k : Int) = R) := Lib.hid (by
          have h9 : fF W L k ≠ 0 := by rw [hfk.out]; exact hz0.out
          rw [← hR.out]; unfold fitsR
          rw [if_neg (by rw [fsN_stop hz.out h9 l hkl]; exact h9), fsI_stop hz.out h9 l hkl])
        clear hz hz0 hfk
        refine wp_region_held_drew (S := (fun w' => w'.cell? ⟨b, off + k, none⟩ = some (.slice C V.length cc) ∧ w'.cell? ⟨wr.heap.size, 0, none⟩ = some (.int .i64 ta) ∧ w'.cell? ⟨wr.heap.size, 1, none⟩ = some (.int .i64 tb))) (by kernel_rfl) (by simp [go_sem, World.cell?_alloc_past, *]) (fun hHeld => ?_)
        refine tkH 0 ⟨some 34, _, _, _, _, _⟩ ?_ rfl ?_ (by assumption) ?_
        rotate_left
        · (intro w hSw; (try dsimp only at hSw); go_simp; all_goals with_reducible rfl)
        try simp only [Act.put, sA, sB, sC]
        refine tkH 1 ⟨some 35, _, _, _, _, _⟩ ?_ rfl ?_ (by assumption) ?_
        rotate_left
        · (intro w hSw; (try dsimp only at hSw); go_simp; all_goals with_reducible rfl)
        try simp only [Act.put, sA, sB, sC]
        refine tkH 2 ⟨some 36, _, _, _, _, _⟩ ?_ rfl ?_ (by assumption) ?_
        rotate_left
        · (intro w hSw; (try dsimp only at hSw); go_simp; all_goals with_reducible rfl)
        try simp only [Act.put, sA, sB, sC]
        refine tkH 3 ⟨some 37, _, _, _, _, _⟩ ?_ rfl ?_ (by assumption) ?_
        rotate_left
        · (intro w hSw; (try dsimp only at hSw); go_simp; all_goals with_reducible rfl)
        try simp only [Act.put, sA, sB, sC]
        refine tkH 4 ⟨some 38, _, _, _, _, _⟩ ?_ rfl ?_ (by assumption) ?_
        rotate_left
        · (intro w hSw; (try dsimp only at hSw); go_simp; all_goals with_reducible rfl)
        try simp only [Act.put, sA, sB, sC]
        refine wpAnyH_ready (rs := [5]) (by kernel_rfl) (by simp) ?_
        refine AllReadyH.cons rfl (fun K hK => ?_) AllReadyH.nil
        go_simp
        refine (checkFit_any V C cc V.length ta tb F _ (Lib.hid rfl) hVl (Lib.hid (HVU.out _ (Below.refl _ _).drew)) hF).mono ?_
        rintro e y1 ⟨rfl, hyb0⟩
        have hyb : Below u.heap.size u y1 := (by (repeat (first | (with_reducible refine Below.drew ?_) | (with_reducible refine below_drewN ?_ _) | (with_reducible refine Below.alloc ?_ (by first | omega | (simp; done) | (simp; omega) | (simp at *; omega)) _) | (with_reducible refine Below.setCell ?_ (by first | omega | (simp; done) | (simp; omega) | (simp at *; omega)) _) | (with_reducible exact Below.refl _ _) | (with_reducible assumption) | (with_reducible refine Below.trans ?_ (Below.mono (by assumption) (by first | omega | (simp; done) | (simp; omega) | (simp at *; omega)))))))
        have k0 := (hyb.cell (p := ⟨wr.heap.size, 0, none⟩) hlu).trans c0
        have k1 := (hyb.cell (p := ⟨wr.heap.size, 1, none⟩) hlu).trans c1
        have k2 := (hyb.cell (p := ⟨b, off + k, none⟩) (show b < u.heap.size by omega)).trans h1u
        clear hyb0
        go_wp2_with fail
        refine hK.out _ _ (by simp [go_sem, World.cell?_alloc_past, *]) (fun hHeld => ?_)
        clear hK K
        try simp only [Act.put, sA, sB, sC]
        refine tkH 6 ⟨some 12, _, _, _, _, _⟩ ?_ rfl ?_ (by assumption) ?_
        rotate_left
        · (intro w hSw; (try dsimp only at hSw); go_simp; all_goals with_reducible rfl)
        try simp only [Act.put, sA, sB, sC]
        refine wpAnyH_done (by kernel_rfl) ?_ _
        have hB2 : Below w1.heap.size w1 y1 := hBu.trans (hyb.mono hBu.size)
        clear hyb c0 c1 h1u
        have HBZ := Lib.hid (HBW.out _ hB2)
        go_wp2
        go_ret2
        exact ⟨by rw [hr1.out, hr2.out]; rfl, HBZ.out⟩
    · have hkk : k = l := by omega
      have hz9 : fsN (fF W L) l = 0 := by rw [← hkk]; exact hz.out
      have hr1 : Hid (0 = E) := Lib.hid (by rw [← hE.out]; exact hz9.symm)
      have hlL : l - 1 < L.length := by have := hll.out; omega
      have hr2 : Hid (L[l - 1].2 = R) := Lib.hid (by rw [← hR.out]; unfold fitsR; rw [if_pos hz9, getD_at hlL])
      obtain ⟨p0, p1⟩ := pr_at (HT.out _ hB) hlL
      rw [hr2.out, Nat.zero_add] at p1
      have w2 : IntKind.i64.wrap ((l : Int) - 1) = (l : Int) - 1 := IntWalk.i64_in _ (by omega)
      have j2 : (0 : Int) ≤ (l : Int) - 1 := by omega
      have j3 : ((l : Int) - 1).toNat = l - 1 := by omega
      have j4 : (l : Int) - 1 < (l : Int) := by omega
      clear hz hkk hz9 p0
      go_wp2
      go_ret2
      exact ⟨by rw [← hr1.out]; rfl, HBW.out _ hB⟩
end Go.Proofs.YtojaompfffpofaaGreat
