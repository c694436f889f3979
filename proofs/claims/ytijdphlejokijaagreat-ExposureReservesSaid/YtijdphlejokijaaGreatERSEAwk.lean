import Derived.Test.YtijdphlejokijaaGreatERSEInts
import Derived.Outline
namespace Go.Proofs.YtijdphlejokijaaGreat
open Go.ChangeShapes Go.WideShapes Go.ChangeAt Go.RowKit
set_option linter.unusedVariables false
set_option linter.unusedSimpArgs false
attribute [local go_sem ↓] Go.wp_at_zero Go.wp_at_succ
theorem sl_ints {u : World} {B b : Nat} {l : List Int} (h : BlkF u B b (l.map fun x => Value.int .i64 x)) : SlRows inV 1 u (some ⟨b, 0, none⟩) l := by
  refine Or.inr ⟨b, 0, rfl, h.lt, fun k hk i hi => ?_⟩
  obtain rfl : i = 0 := by omega
  have hc := h.at' k (.int .i64 l[k]) (by rw [List.getElem?_map, List.getElem?_eq_getElem hk]; rfl)
  have e : 0 + k * 1 + 0 = k := by omega
  rw [e]
  exact hc
set_option maxRecDepth 100000 in
set_option maxHeartbeats 4000000 in
theorem awake_any (w : World) : Calls Tryz.prog 5 #[] w fun e w' => e = .returned (.bool true) ∧ Below w.heap.size w w' := by
  go_enter Tryz.func5, Tryz.ntmps5
  go_wp2_with fail
  refine (Dive_is _).mono ?_
  rintro e x1 ⟨A1, B1, rfl, hG1, hD1, hb1⟩
  go_wp2_with fail
  refine (Rules_is _).mono ?_
  rintro e x2 ⟨T1, rfl, hT1, hb2⟩
  have hB2 : Below w.heap.size w x2 := hb1.trans (hb2.mono hb1.size)
  go_wp2_with fail
  refine (ClockOf_any ⟨#[112]⟩ 1013 dG dD A1 B1 2 2 4 4 _ 0 dT dR T1 2 2 0 0 _ (by decide) (Lib.hid rfl) (by decide) (Lib.hid rfl) (by decide) (Lib.hid (hG1.below hb2)) (Lib.hid (hD1.below hb2)) (Lib.hid dPln) (Lib.hid rfl) (by decide) (Lib.hid hT1) (Lib.hid dRul) (Lib.hid rfl)).mono ?_
  rintro e x3 h
  obtain ⟨_, C, c, rfl, hC, _, _, hb3⟩ := h.resolve_left (fun h => h.1 rfl)
  rw [dClk] at hC
  have hB3 : Below w.heap.size w x3 := hB2.trans (hb3.mono hB2.size)
  clear h hb1 hb2 hb3 hG1 hD1 hT1 hB2
  go_wp2_with fail
  refine (Dive_is _).mono ?_
  rintro e x4 ⟨A2, B2, rfl, hG2, hD2, hb4⟩
  go_wp2_with fail
  refine (Consumed_any ⟨#[112]⟩ 1013 dG dD A2 B2 2 2 4 4 _ 0 20000 0 0 _ (by decide) (Lib.hid rfl) (by decide) (Lib.hid rfl) (by decide) (Lib.hid hG2) (Lib.hid hD2) (Lib.hid dPln) (Lib.hid rfl) (Lib.hid rfl)).mono ?_
  rintro e x5 h
  obtain ⟨_, F, rfl, hF, _, hb5⟩ := h.resolve_left (fun h => h.1 rfl)
  rw [dCon] at hF
  have hb35 : Below x3.heap.size x3 x5 := hb4.trans (hb5.mono hb4.size)
  replace hC := hC.below hb35
  have hB5 : Below w.heap.size w x5 := hB3.trans (hb35.mono hB3.size)
  clear h hb4 hb5 hb35 hG2 hD2 hB3
  go_wp2_with fail
  refine (Dive_is _).mono ?_
  rintro e x6 ⟨A3, B3, rfl, hG3, hD3, hb6⟩
  go_wp2_with fail
  refine (Rules_is _).mono ?_
  rintro e x7 ⟨T3, rfl, hT3, hb7⟩
  go_wp2_with fail
  refine (NeedAt_ok ⟨#[112]⟩ 1013 dG dD A3 B3 2 2 4 4 _ dT dR T3 2 2 660 851116 1 0 _ (by decide) (Lib.hid rfl) (by decide) (Lib.hid rfl) (by decide) (Lib.hid (hG3.below hb7)) (Lib.hid (hD3.below hb7)) (Lib.hid dPln) (Lib.hid rfl) (by decide) (Lib.hid hT3) (Lib.hid dRul) (Lib.hid (by rw [dSec]; decide)) (Lib.hid dShort) (by decide) (by decide) (Lib.hid (by rw [dSec]; decide)) (Lib.hid dEnd0) (Lib.hid dBeg) (Lib.hid dEnd1) (Lib.hid (by decide +kernel)) (Lib.hid dNed)).mono ?_
  rintro e x8 ⟨rfl, hb8⟩
  have hb58 : Below x5.heap.size x5 x8 := hb6.trans ((hb7.trans (hb8.mono hb7.size)).mono hb6.size)
  replace hC := hC.below hb58
  replace hF := hF.below hb58
  have hB8 : Below w.heap.size w x8 := hB5.trans (hb58.mono hB5.size)
  clear hb6 hb7 hb8 hb58 hG3 hD3 hT3 hB5
  go_wp2_with fail
  refine (Rules_is _).mono ?_
  rintro e x9 ⟨T4, rfl, hT4, hb9⟩
  go_wp2_with fail
  refine (DepthsOf_any 210 0 1000 dT dR T4 2 2 0 0 0 0 _ (Lib.hid rfl) (by decide) (Lib.hid hT4) (Lib.hid (by decide +kernel)) (Lib.hid (by decide +kernel)) (Lib.hid dRul) (Lib.hid rfl)).mono ?_
  rintro e x10 h
  obtain ⟨_, rfl, hb10⟩ := h.resolve_left (fun h => h.1 rfl)
  rw [dDpt]
  have hb810 : Below x8.heap.size x8 x10 := hb9.trans (hb10.mono hb9.size)
  replace hC := Lib.hid (hC.below hb810)
  replace hF := Lib.hid (hF.below hb810)
  have hB10 : Below w.heap.size w x10 := hB8.trans (hb810.mono hB8.size)
  clear h hb9 hb10 hb810 hT4 hB8
  have hr1 : Below x10.heap.size x10 (x10.alloc (.cells #[.int .i64 0, .int .i64 3000] 62)) := (Below.refl _ _).alloc (Nat.le_refl _) _
  have hr2 : Below (x10.heap.size + 1) (x10.alloc (.cells #[.int .i64 0, .int .i64 3000] 62)) ((x10.alloc (.cells #[.int .i64 0, .int .i64 3000] 62)).alloc (.cells #[.int .i64 1441, .int .i64 60000, .int .i64 4321, .int .i64 30000] 3)) := (Below.refl _ _).alloc (by simp) _
  have ZR := BlkF.made (B := 0) x10 [.int .i64 0, .int .i64 3000] 62 (Nat.zero_le _)
  have ZI := BlkF.made (B := 0) (x10.alloc (.cells #[.int .i64 0, .int .i64 3000] 62)) [.int .i64 1441, .int .i64 60000, .int .i64 4321, .int .i64 30000] 3 (Nat.zero_le _)
  simp only [World.size_alloc] at ZI
  have hI1 := Lib.hid (sl_ints (l := [1441, 60000, 4321, 30000]) ZI)
  have hC1 := Lib.hid ((hC.out.below hr1).below (hr2.mono (by simp)))
  have hF1 := Lib.hid ((hF.out.below hr1).below (hr2.mono (by simp)))
  have hZ1 := Lib.hid (ZR.below (hr2.mono (by simp)))
  have hBz := Lib.hid (hB10.trans ((hr1.trans (hr2.mono (by simp))).mono hB10.size))
  clear hr1 hr2 ZR ZI hC hF hB10
  go_wp2_with fail
  refine (Ints_is [1441, 60000, 4321, 30000] [1441, 60000, 4321, 30000] C (some ⟨x10.heap.size + 1, 0, none⟩) 4 4 c 4 _ (Lib.hid rfl) (Lib.hid rfl) (by decide) (by decide) hC1 hI1).mono ?_
  rintro e x11 ⟨rfl, hb11⟩
  rw [show decide (([1441, 60000, 4321, 30000] : List Int) = [1441, 60000, 4321, 30000]) = true by decide]
  have hF2 := hF1.out.below hb11
  have hZ2 := hZ1.out.below hb11
  have hB11 : Below w.heap.size w x11 := hBz.out.trans (hb11.mono hBz.out.size)
  clear hF1 hZ1 hBz hC1 hI1 hb11
  have hr3 : Below x11.heap.size x11 (x11.alloc (.cells #[.int .i64 689380, .int .i64 161300] 3)) := (Below.refl _ _).alloc (Nat.le_refl _) _
  have ZI := BlkF.made (B := 0) x11 [.int .i64 689380, .int .i64 161300] 3 (Nat.zero_le _)
  have hI1 := Lib.hid (sl_ints (l := [689380, 161300]) ZI)
  have hF3 := Lib.hid (hF2.below hr3)
  have hZ3 := Lib.hid (hZ2.below hr3)
  have hBz := Lib.hid (hB11.trans (hr3.mono hB11.size))
  clear hr3 ZI hF2 hZ2 hB11
  go_wp2_with fail
  refine (Ints_is [689380, 161300] [689380, 161300] (some ⟨F, 0, none⟩) (some ⟨x11.heap.size, 0, none⟩) 2 2 2 2 _ (Lib.hid rfl) (Lib.hid rfl) (by decide) (by decide) hF3 hI1).mono ?_
  rintro e x12 ⟨rfl, hb12⟩
  rw [show decide (([689380, 161300] : List Int) = [689380, 161300]) = true by decide]
  obtain ⟨z0, z1⟩ := b2 (hZ3.out.below hb12)
  have hB12 : Below w.heap.size w x12 := hBz.out.trans (hb12.mono hBz.out.size)
  clear hF3 hZ3 hBz hI1 hb12
  go_wp2
  go_ret
  exact ⟨rfl, hB12⟩
end Go.Proofs.YtijdphlejokijaaGreat
