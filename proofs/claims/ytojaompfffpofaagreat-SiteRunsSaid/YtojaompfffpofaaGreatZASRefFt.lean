import Derived.Test.YtojaompfffpofaaGreatZASRefRc
import Derived.Test.YtojaompfffpofaaGreatZASCpy
import Derived.BigQuiet
import Derived.Outline
namespace Go.Proofs.YtojaompfffpofaaGreat
open Go.ChangeShapes Go.WideShapes Go.ChangeAt Go.RowKit
set_option linter.unusedVariables false
set_option linter.unusedSimpArgs false
attribute [local go_sem ↓] Go.wp_at_zero Go.wp_at_succ
theorem fitW_succ {V : List Rg} {q : Nat} (hq : q < V.length) (ta tb : Int) : fitW (V.take (q + 1)) ta tb = (fitW (V.take q) ta tb || fitU ta tb V[q]) := by
  rw [← take_snoc hq]; unfold fitW; rw [List.any_append]; simp
theorem fitU_t {ta tb lo hi : Int} (h1 : lo ≤ ta) (h2 : tb ≤ hi) : fitU ta tb ⟨lo, hi⟩ = true := by unfold fitU; simp [h1, h2]
theorem fitU_f1 {ta tb lo hi : Int} (h1 : ¬ lo ≤ ta) : fitU ta tb ⟨lo, hi⟩ = false := by unfold fitU; simp [h1]
theorem fitU_f2 {ta tb lo hi : Int} (h2 : ¬ tb ≤ hi) : fitU ta tb ⟨lo, hi⟩ = false := by unfold fitU; simp [h2]
set_option maxRecDepth 100000 in
set_option maxHeartbeats 1000000 in
theorem refFits_shape (A B Aq As D : Option Addr) (n ca cb l l2 cq cs lw cw : Nat) (bg : Int) (w : World) (hne : lw ≠ l) (h1 : l ≤ 1000000) (h2 : lw ≤ 1000000) :
    Calls Tryz.prog 54 #[.agg #[.slice A n ca, .slice B n cb], .agg #[.int .i64 bg, .slice Aq l cq, .slice As l2 cs], .slice D lw cw] w fun e w' => e = .returned (.tuple #[.int .i64 0, .int .i64 10]) ∧ Below w.heap.size w w' := by
  have e1 : ¬ (lw : Int) = (l : Int) := by omega
  have e2 : ((lw : Int) == (l : Int)) = false := by simpa using e1
  go_enter Tryz.func54, Tryz.ntmps54
  go_wp2
  go_ret2
  exact ⟨rfl, (by (repeat (first | (with_reducible refine Below.drew ?_) | (with_reducible refine below_drewN ?_ _) | (with_reducible refine Below.alloc ?_ (by first | omega | (simp; done) | (simp; omega) | (simp at *; omega)) _) | (with_reducible refine Below.setCell ?_ (by first | omega | (simp; done) | (simp; omega) | (simp at *; omega)) _) | (with_reducible exact Below.refl _ _) | (with_reducible assumption) | (with_reducible refine Below.trans ?_ (Below.mono (by assumption) (by first | omega | (simp; done) | (simp; omega) | (simp at *; omega)))))))⟩
set_option maxRecDepth 100000 in
set_option maxHeartbeats 4000000 in
theorem refFits_run (A B Aq As D : Option Addr) (n ca cb l cq cs cw : Nat) (Pl : List ByteArray) (M : List (List Int)) (bg : Int) (Q Z : List Int) (W : List (List Rg)) (L : List (Int × Int)) (E R : Int) (w : World) (hl0 : 0 < n) (hl : n ≤ 12) (HR : Hid (RnSl w A B Aq As n l Pl M bg Q Z)) (HW : Hid (SlWn w D W)) (hlw : Hid (W.length = l)) (hsm : Hid (∀ k, k < l → (W.getD k []).length ≤ 1000000)) (hL : Hid (tmsL M bg Q Z l = L)) (hE : Hid (fsN (fF W L) l = E)) (hR : Hid (fitsR W L l = R)) :
    Calls Tryz.prog 54 #[.agg #[.slice A n ca, .slice B n cb], .agg #[.int .i64 bg, .slice Aq l cq, .slice As l cs], .slice D l cw] w fun e w' => e = .returned (.tuple #[.int .i64 R, .int .i64 E]) ∧ Below w.heap.size w w' := by
  have hbu : Below w.heap.size w ((w.alloc (.cells #[.slice A n ca, .slice B n cb] 78)).alloc (.cells #[.int .i64 bg, .slice Aq l cq, .slice As l cs] 92)) := (by (repeat (first | (with_reducible refine Below.drew ?_) | (with_reducible refine below_drewN ?_ _) | (with_reducible refine Below.alloc ?_ (by first | omega | (simp; done) | (simp; omega) | (simp at *; omega)) _) | (with_reducible refine Below.setCell ?_ (by first | omega | (simp; done) | (simp; omega) | (simp at *; omega)) _) | (with_reducible exact Below.refl _ _) | (with_reducible assumption) | (with_reducible refine Below.trans ?_ (Below.mono (by assumption) (by first | omega | (simp; done) | (simp; omega) | (simp at *; omega)))))))
  have hll : Hid (L.length = l) := Lib.hid (by rw [← hL.out, tmsL_len])
  have h0l : 0 < l := by have := HR.out.ok.l0; have := HR.out.hl; omega
  have l12 : l ≤ 12 := by have := HR.out.ok.l12; have := HR.out.hl; omega
  go_enter Tryz.func54, Tryz.ntmps54
  go_wp2_with fail
  refine (refTimes_is A B Aq As n ca cb l cq cs Pl M bg Q Z _ hl (Lib.hid (HR.out.below hbu))).mono ?_
  rw [hL.out]
  rintro e w1 ⟨g, cap, rfl, hg, hr, hb1⟩
  have hB1 : Below w.heap.size w w1 := hbu.trans (hb1.mono hbu.size)
  have HT : Hid (∀ x, Below w1.heap.size w1 x → RowsAt prV 2 x g 0 L) := Lib.hid fun x hx k hk i hi => (hx.cell (p := ⟨g, _, none⟩) hg).trans (hr k hk i hi)
  have HWX : Hid (∀ x, Below w1.heap.size w1 x → SlWn x D W) := Lib.hid fun x hx => (HW.out.below hB1).below hx
  have HBW : Hid (∀ x, Below w1.heap.size w1 x → Below w.heap.size w x) := Lib.hid fun x hx => hB1.trans (hx.mono hB1.size)
  clear hb1 hbu hr hB1
  go_wp2
  go_loopw [9] (fun i wr => ∃ k : Nat, k ≤ l ∧ i = .int .i64 k ∧ Hid (fsN (fF W L) k = 0) ∧ Below w1.heap.size w1 wr) (fun i _ => l - (intOf i).toNat)
  case atStart => exact ⟨0, by omega, rfl, Lib.hid rfl, (by (repeat (first | (with_reducible refine Below.drew ?_) | (with_reducible refine below_drewN ?_ _) | (with_reducible refine Below.alloc ?_ (by first | omega | (simp; done) | (simp; omega) | (simp at *; omega)) _) | (with_reducible refine Below.setCell ?_ (by first | omega | (simp; done) | (simp; omega) | (simp at *; omega)) _) | (with_reducible exact Below.refl _ _) | (with_reducible assumption) | (with_reducible refine Below.trans ?_ (Below.mono (by assumption) (by first | omega | (simp; done) | (simp; omega) | (simp at *; omega)))))))⟩
  case round =>
    obtain ⟨k, hk, rfl, hz, hB⟩ := hrel
    have hsz := hB.size
    by_cases hkl : k < l
    · have kl : (k : Int) < (l : Int) := by omega
      have hkL : k < L.length := by have := hll.out; omega
      have hkW : k < W.length := by have := hlw.out; omega
      obtain ⟨p0, p1⟩ := pr_at (HT.out _ hB) hkL
      rw [Nat.zero_add] at p0 p1
      rcases HWX.out _ hB with h0 | ⟨b, off, rfl, hbl, hWt⟩
      · rw [h0] at hkW; simp at hkW
      obtain ⟨C, cc, h1, h2⟩ := hWt k hkW
      obtain ⟨⟨ta, tb⟩, hx⟩ : ∃ x, Hid (L[k] = x) := ⟨_, Lib.hid rfl⟩
      rw [hx.out] at p0 p1
      dsimp only at p0 p1
      obtain ⟨V, hV⟩ : ∃ V, Hid (W.getD k [] = V) := ⟨_, Lib.hid rfl⟩
      rw [hV.out] at h1 h2
      have hVl := hsm.out k hkl
      rw [hV.out] at hVl
      obtain ⟨F, hF⟩ : ∃ F, Hid (winE V = F) := ⟨_, Lib.hid rfl⟩
      have hfk : fF W L k = if F = 0 then (if fitW V ta tb = true then 0 else 13) else F := by unfold fF fitE; rw [getD_at hkL, hx.out, hV.out, hF.out]
      have HV := Lib.hid h2
      have lg : g < wr.heap.size := by omega
      have HCC : Hid (∀ x, Below wr.heap.size wr x → x.cell? ⟨b, off + k, none⟩ = some (.slice C V.length cc) ∧ x.cell? ⟨g, k * 2, none⟩ = some (.int .i64 ta) ∧ x.cell? ⟨g, k * 2 + 1, none⟩ = some (.int .i64 tb)) := Lib.hid fun x hx => ⟨(hx.cell (p := ⟨b, off + k, none⟩) hbl).trans h1, (hx.cell (p := ⟨g, k * 2, none⟩) lg).trans p0, (hx.cell (p := ⟨g, k * 2 + 1, none⟩) lg).trans p1⟩
      have bad : ∀ v : Int, fF W L k = v → v ≠ 0 → E = v ∧ (k : Int) = R := fun v h3 h4 => by
        have h9 : fF W L k ≠ 0 := by rw [h3]; exact h4
        refine ⟨by rw [← hE.out, fsN_stop hz.out h9 l hkl, h3], ?_⟩
        rw [← hR.out]; unfold fitsR
        rw [if_neg (by rw [fsN_stop hz.out h9 l hkl]; exact h9), fsI_stop hz.out h9 l hkl]
      clear hWt h2
      rcases ez2 F with ⟨hz0, hzb⟩ | ⟨hz0, hzb⟩
      · rw [if_pos hz0.out] at hfk
        have HFK := Lib.hid hfk
        have BAD := Lib.hid bad
        clear hfk bad hz0
        go_wp2_with fail
        refine (refWindows_is V C cc V.length F _ (Lib.hid rfl) hVl HV.out hF).mono ?_
        rintro e y1 ⟨rfl, hb1⟩
        have hBY := Lib.hid hb1
        have hzy := hb1.size
        have hB2 : Below w1.heap.size w1 y1 := hB.trans (hb1.mono hsz)
        obtain ⟨q0, q1, q2⟩ := HCC.out _ hb1
        clear hb1 h1 p0 p1
        go_wp2
        go_loopw [11, 12] (fun a j wx => ∃ q : Nat, q ≤ V.length ∧ j = .int .i64 q ∧ a = .bool (fitW (V.take q) ta tb) ∧ Below wr.heap.size wr wx) (fun _ j _ => V.length - (intOf j).toNat)
        case atStart => exact ⟨0, by omega, rfl, rfl, hBY.out⟩
        case round =>
          obtain ⟨q, hq, rfl, rfl, hB3⟩ := hrel
          clear q0 q1 q2
          obtain ⟨q0, q1, q2⟩ := HCC.out _ hB3
          by_cases hqn : q < V.length
          · have qn : (q : Int) < (V.length : Int) := by omega
            rcases HV.out.below hB3 with h9 | ⟨vb, vo, rfl, hvl, hvR⟩
            · rw [h9] at hqn; simp at hqn
            obtain ⟨x0, x1⟩ := rg_at hvR hqn
            rw [getD_at hqn] at x0 x1
            obtain ⟨⟨lo, hi⟩, hu⟩ : ∃ u, Hid (V[q] = u) := ⟨_, Lib.hid rfl⟩
            have hsu := fitW_succ hqn ta tb
            rw [hu.out] at x0 x1 hsu
            dsimp only at x0 x1
            clear hvR
            cases ha : fitW (V.take q) ta tb with
            | true =>
              have hn : Hid (fitW (V.take (q + 1)) ta tb = true) := Lib.hid (by rw [hsu, ha]; rfl)
              clear hsu
              go_wp2_with fail
              go_big_quiet (fail)
              go_wp2
              go_roundw
              case rel => exact ⟨q + 1, by omega, by go_num, by rw [hn.out], (by (repeat (first | (with_reducible refine Below.drew ?_) | (with_reducible refine below_drewN ?_ _) | (with_reducible refine Below.alloc ?_ (by first | omega | (simp; done) | (simp; omega) | (simp at *; omega)) _) | (with_reducible refine Below.setCell ?_ (by first | omega | (simp; done) | (simp; omega) | (simp at *; omega)) _) | (with_reducible exact Below.refl _ _) | (with_reducible assumption) | (with_reducible refine Below.trans ?_ (Below.mono (by assumption) (by first | omega | (simp; done) | (simp; omega) | (simp at *; omega)))))))⟩
              case measure => (simp [intOf]) <;> omega
            | false =>
              by_cases c1 : lo ≤ ta
              · have k1 : decide (lo ≤ ta) = true := by simpa using c1
                by_cases c2 : tb ≤ hi
                · have k2 : decide (tb ≤ hi) = true := by simpa using c2
                  have hn : Hid (fitW (V.take (q + 1)) ta tb = true) := Lib.hid (by rw [hsu, ha, fitU_t c1 c2]; rfl)
                  clear hsu
                  go_wp2_with fail
                  go_big_quiet (fail)
                  go_wp2
                  go_roundw
                  case rel => exact ⟨q + 1, by omega, by go_num, by rw [hn.out], (by (repeat (first | (with_reducible refine Below.drew ?_) | (with_reducible refine below_drewN ?_ _) | (with_reducible refine Below.alloc ?_ (by first | omega | (simp; done) | (simp; omega) | (simp at *; omega)) _) | (with_reducible refine Below.setCell ?_ (by first | omega | (simp; done) | (simp; omega) | (simp at *; omega)) _) | (with_reducible exact Below.refl _ _) | (with_reducible assumption) | (with_reducible refine Below.trans ?_ (Below.mono (by assumption) (by first | omega | (simp; done) | (simp; omega) | (simp at *; omega)))))))⟩
                  case measure => (simp [intOf]) <;> omega
                · have k2 : decide (tb ≤ hi) = false := by simpa using c2
                  have hn : Hid (fitW (V.take (q + 1)) ta tb = false) := Lib.hid (by rw [hsu, ha, fitU_f2 c2]; rfl)
                  clear hsu
                  go_wp2_with fail
                  go_big_quiet (fail)
                  go_wp2
                  go_roundw
                  case rel => exact ⟨q + 1, by omega, by go_num, by rw [hn.out], (by (repeat (first | (with_reducible refine Below.drew ?_) | (with_reducible refine below_drewN ?_ _) | (with_reducible refine Below.alloc ?_ (by first | omega | (simp; done) | (simp; omega) | (simp at *; omega)) _) | (with_reducible refine Below.setCell ?_ (by first | omega | (simp; done) | (simp; omega) | (simp at *; omega)) _) | (with_reducible exact Below.refl _ _) | (with_reducible assumption) | (with_reducible refine Below.trans ?_ (Below.mono (by assumption) (by first | omega | (simp; done) | (simp; omega) | (simp at *; omega)))))))⟩
                  case measure => (simp [intOf]) <;> omega
              · have k1 : decide (lo ≤ ta) = false := by simpa using c1
                have hn : Hid (fitW (V.take (q + 1)) ta tb = false) := Lib.hid (by rw [hsu, ha, fitU_f1 c1]; rfl)
                clear hsu
                go_wp2_with fail
                go_big_quiet (fail)
                go_wp2
                go_roundw
                case rel => exact ⟨q + 1, by omega, by go_num, by rw [hn.out], (by (repeat (first | (with_reducible refine Below.drew ?_) | (with_reducible refine below_drewN ?_ _) | (with_reducible refine Below.alloc ?_ (by first | omega | (simp; done) | (simp; omega) | (simp at *; omega)) _) | (with_reducible refine Below.setCell ?_ (by first | omega | (simp; done) | (simp; omega) | (simp at *; omega)) _) | (with_reducible exact Below.refl _ _) | (with_reducible assumption) | (with_reducible refine Below.trans ?_ (Below.mono (by assumption) (by first | omega | (simp; done) | (simp; omega) | (simp at *; omega)))))))⟩
                case measure => (simp [intOf]) <;> omega
          · have hqq : V.take q = V := List.take_of_length_le (by omega)
            rw [hqq]
            have hB4 : Below w1.heap.size w1 _ := hB.trans (hB3.mono hsz)
            cases hfw : fitW V ta tb with
            | true =>
              have hz2 : Hid (fsN (fF W L) (k + 1) = 0) := Lib.hid (fsN_on hz.out (by rw [HFK.out, if_pos hfw]))
              clear hqq hfw
              go_wp2
              go_roundw
              case rel => exact ⟨k + 1, by omega, by go_num, hz2, (by (repeat (first | (with_reducible refine Below.drew ?_) | (with_reducible refine below_drewN ?_ _) | (with_reducible refine Below.alloc ?_ (by first | omega | (simp; done) | (simp; omega) | (simp at *; omega)) _) | (with_reducible refine Below.setCell ?_ (by first | omega | (simp; done) | (simp; omega) | (simp at *; omega)) _) | (with_reducible exact Below.refl _ _) | (with_reducible assumption) | (with_reducible refine Below.trans ?_ (Below.mono (by assumption) (by first | omega | (simp; done) | (simp; omega) | (simp at *; omega)))))))⟩
              case measure => (simp [intOf]) <;> omega
            | false =>
              obtain ⟨hr1, hr2⟩ := BAD.out 13 (by rw [HFK.out, if_neg (by rw [hfw]; exact Bool.false_ne_true)]) (by omega)
              have HR1 := Lib.hid hr1
              have HR2 := Lib.hid hr2
              have HBZ := Lib.hid (HBW.out _ hB4)
              clear hqq hfw hr1 hr2
              go_wp2
              go_ret2
              exact ⟨by rw [HR1.out, ← HR2.out]; rfl, HBZ.out⟩
      · rw [if_neg hz0.out] at hfk
        obtain ⟨hr1, hr2⟩ := bad F hfk hz0.out
        have HR1 := Lib.hid hr1
        have HR2 := Lib.hid hr2
        clear hfk bad hz0 hr1 hr2
        go_wp2_with fail
        refine (refWindows_is V C cc V.length F _ (Lib.hid rfl) hVl HV.out hF).mono ?_
        rintro e y1 ⟨rfl, hb1⟩
        have HBZ := Lib.hid (HBW.out _ (hB.trans (hb1.mono hsz)))
        clear hb1
        go_wp2
        go_ret2
        exact ⟨by rw [HR1.out, ← HR2.out]; rfl, HBZ.out⟩
    · have hkk : k = l := by omega
      have hz9 : fsN (fF W L) l = 0 := by rw [← hkk]; exact hz.out
      have hr1 : Hid (0 = E) := Lib.hid (by rw [← hE.out]; exact hz9.symm)
      have hlL : l - 1 < L.length := by have := hll.out; omega
      have hr2 : Hid (L[l - 1].2 = R) := Lib.hid (by rw [← hR.out]; unfold fitsR; rw [if_pos hz9, getD_at hlL])
      obtain ⟨p0, p1⟩ := pr_at (HT.out _ hB) hlL
      rw [hr2.out, Nat.zero_add] at p1
      have w2 : IntKind.i64.wrap ((l : Int) - 1) = (l : Int) - 1 := IntWalk.i64_in _ (by omega)
      have j2 : (0 : Int) ≤ (l : Int) - 1 := by omega
      have j3 : ((l : Int) - 1).toNat = l - 1 := by omega
      have j4 : (l : Int) - 1 < (l : Int) := by omega
      clear hz hkk hz9 p0
      go_wp2
      go_ret2
      exact ⟨by rw [← hr1.out]; rfl, HBW.out _ hB⟩
end Go.Proofs.YtojaompfffpofaaGreat
