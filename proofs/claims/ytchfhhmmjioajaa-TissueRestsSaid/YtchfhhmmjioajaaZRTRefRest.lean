import Derived.Test.YtchfhhmmjioajaaZRTRestG
import Derived.Test.YtchfhhmmjioajaaZRTRefStep2
import Derived.Test.YtchfhhmmjioajaaZRMMarks
import Derived.Outline
namespace Go.Proofs.Ytchfhhmmjioajaa
open Go.ChangeShapes Go.WideShapes Go.ChangeAt Go.RowKit
set_option linter.unusedVariables false
set_option linter.unusedSimpArgs false
attribute [local go_sem ↓] Go.wp_at_zero Go.wp_at_succ
set_option maxRecDepth 100000 in
set_option maxHeartbeats 2000000 in
theorem refRested_n (T : List Cm) (L : List Ld) (A B : Option Addr) (cap cap' : Nat) (su se : Int) (n : Nat) (w : World) (hn : L.length = n) (hF : Hid (Fit T L)) (su0 : 400 ≤ su) (su1 : su ≤ 1100) (se0 : 0 ≤ se) (se1 : se ≤ 1000000) (hT : SlCm w A T) (hL : SlLd w B L) :
    Calls Try.prog 45 #[.slice A T.length cap, .slice B n cap', .int .i64 su, .int .i64 se] w (LoadedL T.length (rsR su se T L) w) := by
  have hn' : n = T.length := by rw [← hn]; exact hF.out.len
  subst hn'
  have HT := Lib.hid hT
  have HL := Lib.hid hL
  have HN := Lib.hid hn
  obtain ⟨y0, hy0⟩ : ∃ x, Hid ((1000 - 210 - 0) * (su - 63) = x) := ⟨_, Lib.hid rfl⟩
  have hyz : Hid ((0 : Int) * (su - 63) = 0) := Lib.hid (Int.zero_mul _)
  have HPE : Hid (rsR su se T L = (List.range T.length).map (stepR se 20 T L y0 y0 0 0)) := by show _ = _; rw [rsR, hy0.out]
  clear hT hL hn
  go_enter Try.func45, Try.ntmps45
  go_wp2_with fail
  have hRT : ∀ u, Calls Try.prog 78 #[.int .i64 20] u (fun e w' => ∃ v, e = .returned v ∧ RootsAt w' v 20 u.heap.size ∧ Below u.heap.size u w') := fun u => refRoots_any 20 u (by omega)
  refine (hRT _).mono ?_
  rintro e u1 ⟨v, rfl, hR, hb⟩
  clear hRT
  obtain ⟨rb, rcap, rfl, rlt, rge, hc1, hc2, hcell⟩ := hR
  have HR : Hid (RtAt u1 rb 20) := hcell
  have HC2 := Lib.hid (And.intro hc1 hc2)
  have hB1 : Below w.heap.size w u1 := (by (repeat (first | (with_reducible refine Below.drew ?_) | (with_reducible refine below_drewN ?_ _) | (with_reducible refine Below.alloc ?_ (by first | omega | (simp; done) | (simp; omega) | (simp at *; omega)) _) | (with_reducible refine Below.setCell ?_ (by first | omega | (simp; done) | (simp; omega) | (simp at *; omega)) _) | (with_reducible exact Below.refl _ _) | (with_reducible assumption) | (with_reducible refine Below.trans ?_ (Below.mono (by assumption) (by first | omega | (simp; done) | (simp; omega) | (simp at *; omega)))))))
  clear hcell hb hc1 hc2
  go_wp2_with fail
  refine (refStep_any T L A B cap cap' se su su 210 0 y0 y0 0 0 20 rb rcap _ hF.out.most HN.out (tb_of hF.out).2.2 (ldok_of hF.out) se0 se1 su0 (by omega) su0 (by omega) (by omega) (by omega) (by omega) (by omega) (by omega) hy0 hy0 hyz hyz (by omega) rlt HC2.out.1 HC2.out.2 HR.out (HT.out.below hB1) (HL.out.below hB1)).mono ?_
  rintro e u2 ⟨A2, cap2, rfl, hS, hb⟩
  have HS := Lib.hid hS
  have hB2 : Below w.heap.size w u2 := hB1.trans (hb.mono hB1.size)
  clear hS hb
  go_wp2
  go_ret
  refine ⟨A2, cap2, rfl, ?_, hB2⟩
  rw [HPE.out]
  exact HS.out
end Go.Proofs.Ytchfhhmmjioajaa
