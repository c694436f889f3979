/- Whether loads keep the limits at a pressure: the specification's KeptAt. -/
import Derived.Test.YtbdiljbjddppcaaTKept
import Derived.Outline
namespace Go.Proofs.Ytbdiljbjddppcaa
open Go.ChangeShapes Go.WideShapes Go.ChangeAt Go.RowKit
set_option linter.unusedVariables false
set_option linter.unusedSimpArgs false
attribute [local go_sem ↓] Go.wp_at_zero Go.wp_at_succ
set_option maxRecDepth 100000 in
set_option maxHeartbeats 4000000 in
theorem refKeptAt_any (T : List Cm) (L : List Ld) (A B : Option Addr) (cap cap' : Nat) (p f E : Int) (w : World) (HFit : Hid (Fit T L)) (p0 : 400 ≤ p) (p1 : p ≤ 31100) (f0 : 0 ≤ f) (f1 : f ≤ 1000) (hE : Hid (keptR p f T L 2 = E)) (HT : Hid (SlCm w A T)) (HL : Hid (SlLd w B L)) :
    Calls Try.prog 32 #[.slice A T.length cap, .slice B L.length cap', .int .i64 p, .int .i64 f] w fun e w' => e = .returned (.int .i64 E) ∧ Below w.heap.size w w' := by
  have hlen : T.length ≤ L.length := by rw [HFit.out.len]; exact Nat.le_refl _
  have hmost := HFit.out.most
  go_enter Try.func32, Try.ntmps32
  go_wp2
  go_loopw [9, 10] (fun a i wr => ∃ (k : Nat) (x : Bool), k ≤ T.length ∧ i = .int .i64 k ∧ a = .bool x ∧ Hid (keptR p f (T.drop k) (L.drop k) (if x = true then 2 else 1) = E) ∧ Below w.heap.size w wr) (fun _ i _ => T.length - (intOf i).toNat)
  case atStart => exact ⟨0, true, by omega, rfl, rfl, hE, (by (repeat (first | (with_reducible refine Below.drew ?_) | (with_reducible refine below_drewN ?_ _) | (with_reducible refine Below.alloc ?_ (by first | omega | (simp; done) | (simp; omega) | (simp at *; omega)) _) | (with_reducible refine Below.setCell ?_ (by first | omega | (simp; done) | (simp; omega) | (simp at *; omega)) _) | (with_reducible exact Below.refl _ _) | (with_reducible assumption) | (with_reducible refine Below.trans ?_ (Below.mono (by assumption) (by first | omega | (simp; done) | (simp; omega) | (simp at *; omega)))))))⟩
  case round =>
    clear hE
    obtain ⟨k, x, hk, rfl, rfl, hx, hB⟩ := hrel
    by_cases hkl : k < T.length
    · have hkl2 : (k : Int) < T.length := by omega
      have hkl' : k < L.length := by omega
      have hkl3 : (k : Int) < L.length := by omega
      rcases (HT.out.below hB : SlCm wr A T) with hnil | ⟨pb, po, hAA, plt, PT⟩
      · rw [hnil] at hkl; simp at hkl
      rcases (HL.out.below hB : SlLd wr B L) with hnil | ⟨lb, lo, hBB, llt, PL⟩
      · rw [hnil] at hkl'; simp at hkl'
      subst hAA hBB
      obtain ⟨c0, c1, c2, c3⟩ := PT k hkl
      obtain ⟨d0, d1, d2, d3⟩ := PL k hkl'
      obtain ⟨q1, q2, q3, q4⟩ := cmp_ok (HFit.out.cm k hkl)
      obtain ⟨q5, q6⟩ := lodE_ok (HFit.out.ld k hkl')
      have hst := keptR_drop (p := p) (f := f) hkl hkl' (if x = true then 2 else 1)
      rw [hx.out] at hst
      obtain ⟨n, hn⟩ : ∃ z, Hid (T[k].n = z) := ⟨T[k].n, rfl⟩
      obtain ⟨h, hh⟩ : ∃ z, Hid (T[k].h = z) := ⟨T[k].h, rfl⟩
      obtain ⟨b, hb⟩ : ∃ z, Hid (T[k].b = z) := ⟨T[k].b, rfl⟩
      obtain ⟨s, hs⟩ : ∃ z, Hid (T[k].s = z) := ⟨T[k].s, rfl⟩
      obtain ⟨la, hla⟩ : ∃ z, Hid (L[k].a = z) := ⟨L[k].a, rfl⟩
      obtain ⟨lb', hlb⟩ : ∃ z, Hid (L[k].b = z) := ⟨L[k].b, rfl⟩
      obtain ⟨lc, hlc⟩ : ∃ z, Hid (L[k].c = z) := ⟨L[k].c, rfl⟩
      obtain ⟨ld', hld⟩ : ∃ z, Hid (L[k].d = z) := ⟨L[k].d, rfl⟩
      rw [hn.out] at c0
      rw [hh.out] at c1
      rw [hb.out] at c2 q3 hst
      rw [hs.out] at c3 q4 hst
      rw [hla.out] at d0 q5 hst
      rw [hlb.out] at d1 q5 hst
      rw [hlc.out] at d2 q6 hst
      rw [hld.out] at d3 q6 hst
      obtain ⟨V, hV⟩ : ∃ z, Hid (limV b s f p = z) := ⟨_, rfl⟩
      have vb := lim_bd f0 f1 q3.1 q3.2 q4.1 q4.2 (show 0 ≤ p by omega) p1
      rw [hV.out] at hst vb
      have HR := Lib.hid (fun w => refLimit_is n h b s f p V w f0 f1 q3.1 q3.2 q4.1 q4.2 (by omega) p1 hV)
      obtain ⟨q50, q51, q52⟩ := q5
      obtain ⟨q60, q61, q62⟩ := q6
      have la1 : la ≤ 100000000 := by omega
      have lc1 : lc ≤ 100000000 := by omega
      have lb0 : 0 ≤ lb' := by omega
      have ld0 : 0 ≤ ld' := by omega
      have x1 : IntKind.i64.wrap (la + lc) = la + lc := IntWalk.i64_in _ (by omega)
      have x2 : IntKind.i64.wrap (1000 * (la + lc)) = 1000 * (la + lc) := IntWalk.i64_in _ (by omega)
      have x3 : IntKind.i64.wrap (lb' + ld') = lb' + ld' := IntWalk.i64_in _ (by omega)
      have x4 : IntKind.i64.wrap (1000 * (lb' + ld')) = 1000 * (lb' + ld') := IntWalk.i64_in _ (by omega)
      have HST := Lib.hid hst
      clear hst hx PT PL hn hh hb hs hla hlb hlc hld hV q1 q2 q3 q4 q51 q61
      go_wp2_with fail
      refine (HR.out _).mono ?_
      rintro e w1 ⟨rfl, hb1⟩
      replace d0 := (hb1.cell (p := ⟨lb, lo + k * 4, none⟩) llt).trans d0
      replace d1 := (hb1.cell (p := ⟨lb, lo + k * 4 + 1, none⟩) llt).trans d1
      replace d2 := (hb1.cell (p := ⟨lb, lo + k * 4 + 2, none⟩) llt).trans d2
      replace d3 := (hb1.cell (p := ⟨lb, lo + k * 4 + 3, none⟩) llt).trans d3
      have hB1 : Below w.heap.size w w1 := hB.trans (hb1.mono hB.size)
      clear hb1 hB c0 c1 c2 c3 llt plt
      by_cases hlo : 1000 * (la + lc) ≤ V
      · have hlo' : ¬ V < 1000 * (la + lc) := by omega
        have HN : Hid (keptR p f (T.drop (k + 1)) (L.drop (k + 1)) (if 1000 * (lb' + ld') ≤ V then (if x = true then 2 else 1) else 1) = E) := by have := HST.out; rw [if_pos hlo] at this; exact this.symm
        clear HST hlo
        go_upto_region 6 with (fail)
        go_region_held3 (fun w' => w'.cell? ⟨lb, lo + k * 4, none⟩ = some (.int .i64 la) ∧ w'.cell? ⟨lb, lo + k * 4 + 2, none⟩ = some (.int .i64 lc)) (simp [go_sem, *]) (fail)
        go_wp2
        cases x with
        | true =>
          by_cases hhi : 1000 * (lb' + ld') ≤ V
          · have HN2 : Hid (keptR p f (T.drop (k + 1)) (L.drop (k + 1)) (if true = true then 2 else 1) = E) := by have := HN.out; rw [if_pos hhi] at this; exact this
            clear HN
            go_region_held3 (fun w' => w'.cell? ⟨lb, lo + k * 4 + 1, none⟩ = some (.int .i64 lb') ∧ w'.cell? ⟨lb, lo + k * 4 + 3, none⟩ = some (.int .i64 ld')) (simp [go_sem, *]) (fail)
            go_wp2
            go_roundw
            case rel => exact ⟨k + 1, true, by omega, by go_num, by first | rfl | simp, HN2, (by (repeat (first | (with_reducible refine Below.drew ?_) | (with_reducible refine below_drewN ?_ _) | (with_reducible refine Below.alloc ?_ (by first | omega | (simp; done) | (simp; omega) | (simp at *; omega)) _) | (with_reducible refine Below.setCell ?_ (by first | omega | (simp; done) | (simp; omega) | (simp at *; omega)) _) | (with_reducible exact Below.refl _ _) | (with_reducible assumption) | (with_reducible refine Below.trans ?_ (Below.mono (by assumption) (by first | omega | (simp; done) | (simp; omega) | (simp at *; omega)))))))⟩
            case measure => simp [intOf]; omega
          · have HN2 : Hid (keptR p f (T.drop (k + 1)) (L.drop (k + 1)) (if false = true then 2 else 1) = E) := by have := HN.out; rw [if_neg hhi] at this; exact this
            clear HN
            go_region_held3 (fun w' => w'.cell? ⟨lb, lo + k * 4 + 1, none⟩ = some (.int .i64 lb') ∧ w'.cell? ⟨lb, lo + k * 4 + 3, none⟩ = some (.int .i64 ld')) (simp [go_sem, *]) (fail)
            go_wp2
            go_roundw
            case rel => exact ⟨k + 1, false, by omega, by go_num, by first | rfl | (simp; omega), HN2, (by (repeat (first | (with_reducible refine Below.drew ?_) | (with_reducible refine below_drewN ?_ _) | (with_reducible refine Below.alloc ?_ (by first | omega | (simp; done) | (simp; omega) | (simp at *; omega)) _) | (with_reducible refine Below.setCell ?_ (by first | omega | (simp; done) | (simp; omega) | (simp at *; omega)) _) | (with_reducible exact Below.refl _ _) | (with_reducible assumption) | (with_reducible refine Below.trans ?_ (Below.mono (by assumption) (by first | omega | (simp; done) | (simp; omega) | (simp at *; omega)))))))⟩
            case measure => simp [intOf]; omega
        | false =>
          have HN2 : Hid (keptR p f (T.drop (k + 1)) (L.drop (k + 1)) (if false = true then 2 else 1) = E) := by
            have := HN.out
            show _ = _
            have e : (if 1000 * (lb' + ld') ≤ V then (if false = true then 2 else 1) else 1 : Int) = (if false = true then 2 else 1) := by split <;> rfl
            rw [e] at this
            exact this
          clear HN
          go_big_quiet (fail)
          go_wp2
          go_roundw
          case rel => exact ⟨k + 1, false, by omega, by go_num, by first | rfl | simp, HN2, (by (repeat (first | (with_reducible refine Below.drew ?_) | (with_reducible refine below_drewN ?_ _) | (with_reducible refine Below.alloc ?_ (by first | omega | (simp; done) | (simp; omega) | (simp at *; omega)) _) | (with_reducible refine Below.setCell ?_ (by first | omega | (simp; done) | (simp; omega) | (simp at *; omega)) _) | (with_reducible exact Below.refl _ _) | (with_reducible assumption) | (with_reducible refine Below.trans ?_ (Below.mono (by assumption) (by first | omega | (simp; done) | (simp; omega) | (simp at *; omega)))))))⟩
          case measure => simp [intOf]; omega
      · have hlo' : V < 1000 * (la + lc) := by omega
        have HN : Hid (E = 0) := by have := HST.out; rw [if_neg hlo] at this; exact this
        clear HST hlo
        go_upto_region 6 with (fail)
        go_region_held3 (fun w' => w'.cell? ⟨lb, lo + k * 4, none⟩ = some (.int .i64 la) ∧ w'.cell? ⟨lb, lo + k * 4 + 2, none⟩ = some (.int .i64 lc)) (simp [go_sem, *]) (fail)
        go_wp2
        go_ret
        exact ⟨ret_int HN.out.symm, (by (repeat (first | (with_reducible refine Below.drew ?_) | (with_reducible refine below_drewN ?_ _) | (with_reducible refine Below.alloc ?_ (by first | omega | (simp; done) | (simp; omega) | (simp at *; omega)) _) | (with_reducible refine Below.setCell ?_ (by first | omega | (simp; done) | (simp; omega) | (simp at *; omega)) _) | (with_reducible exact Below.refl _ _) | (with_reducible assumption) | (with_reducible refine Below.trans ?_ (Below.mono (by assumption) (by first | omega | (simp; done) | (simp; omega) | (simp at *; omega)))))))⟩
    · have hkl2 : ¬ (k : Int) < T.length := by omega
      have HN : Hid (E = if x = true then 2 else 1) := by show _ = _; rw [← hx.out, keptR_end (by omega)]
      cases x with
      | true =>
        go_wp2
        go_ret
        exact ⟨ret_int HN.out.symm, hB⟩
      | false =>
        go_wp2
        go_ret
        exact ⟨ret_int HN.out.symm, hB⟩
end Go.Proofs.Ytbdiljbjddppcaa
