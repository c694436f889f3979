import Derived.Test.YtchfhhmmjioajaaZRTSat
import Derived.Test.YtchfhhmmjioajaaZRMRefRoots
import Derived.Outline
namespace Go.Proofs.Ytchfhhmmjioajaa
open Go.ChangeShapes Go.WideShapes Go.ChangeAt Go.RowKit
set_option linter.unusedVariables false
set_option linter.unusedSimpArgs false
attribute [local go_sem ↓] Go.wp_at_zero Go.wp_at_succ
theorem refNitro_is (o h n : Int) (w : World) (o0 : 0 ≤ o) (o1 : o ≤ 1000) (h0 : 0 ≤ h) (h1 : h ≤ 1000) (hn : Hid (1000 - o - h = n)) :
    Calls Try.prog 87 #[.agg #[.int .i64 o, .int .i64 h]] w fun e w' => e = .returned (.int .i64 n) ∧ Below w.heap.size w w' := by
  have hv : Hid (n = 1000 - o - h) := hn.out.symm
  clear hn
  go_enter Try.func87, Try.ntmps87
  go_wp2
  go_ret
  exact ⟨ret_int hv.out.symm, (by (repeat (first | (with_reducible refine Below.drew ?_) | (with_reducible refine below_drewN ?_ _) | (with_reducible refine Below.alloc ?_ (by first | omega | (simp; done) | (simp; omega) | (simp at *; omega)) _) | (with_reducible refine Below.setCell ?_ (by first | omega | (simp; done) | (simp; omega) | (simp at *; omega)) _) | (with_reducible exact Below.refl _ _) | (with_reducible assumption) | (with_reducible refine Below.trans ?_ (Below.mono (by assumption) (by first | omega | (simp; done) | (simp; omega) | (simp at *; omega)))))))⟩
theorem refBreathed_is (n p x : Int) (w : World) (n0 : 0 ≤ n) (n1 : n ≤ 1000) (p0 : 400 ≤ p) (p1 : p ≤ 31100) (hx : Hid (n * (p - 63) = x)) :
    Calls Try.prog 86 #[.int .i64 n, .int .i64 p] w fun e w' => e = .returned (.int .i64 x) ∧ w = w' := by
  have e1 : n * (p - 63) = x := hx.out
  have hb : 0 ≤ x ∧ x ≤ 31037000 := by rw [← e1]; exact ⟨Int.mul_nonneg n0 (by omega), Int.le_trans (Int.mul_le_mul n1 (show p - 63 ≤ 31037 by omega) (by omega) (by omega)) (by omega)⟩
  have e2 : IntKind.i64.wrap (n * (p - 63)) = x := by rw [e1]; exact IntWalk.i64_in _ (by omega)
  have e3 : IntKind.i64.wrap x = x := IntWalk.i64_in _ (by omega)
  clear hx
  go_enter Try.func86, Try.ntmps86
  go_wp2
  go_ret
  exact ⟨ret_int rfl, rfl⟩
set_option maxRecDepth 100000 in
set_option maxHeartbeats 1000000 in
theorem refSame_t (P : List Ld) (A B : Option Addr) (cap cap' : Nat) (w : World) (hl : P.length ≤ 1000) (hP : SlLd w A P) (hR : SlLd w B P) :
    Calls Try.prog 30 #[.slice A P.length cap, .slice B P.length cap'] w fun e w' => e = .returned (.bool true) ∧ Below w.heap.size w w' := by
  have HP := Lib.hid hP
  have HR := Lib.hid hR
  clear hP hR
  go_enter Try.func30, Try.ntmps30
  go_wp2
  go_loopw [5] (fun i wr => ∃ k : Nat, k ≤ P.length ∧ i = .int .i64 k ∧ Below w.heap.size w wr) (fun i _ => P.length - (intOf i).toNat)
  case atStart => exact ⟨0, by omega, rfl, (by (repeat (first | (with_reducible refine Below.drew ?_) | (with_reducible refine below_drewN ?_ _) | (with_reducible refine Below.alloc ?_ (by first | omega | (simp; done) | (simp; omega) | (simp at *; omega)) _) | (with_reducible refine Below.setCell ?_ (by first | omega | (simp; done) | (simp; omega) | (simp at *; omega)) _) | (with_reducible exact Below.refl _ _) | (with_reducible assumption) | (with_reducible refine Below.trans ?_ (Below.mono (by assumption) (by first | omega | (simp; done) | (simp; omega) | (simp at *; omega)))))))⟩
  case round =>
    obtain ⟨k, hk, rfl, hB⟩ := hrel
    by_cases hkl : k < P.length
    · have hkl2 : (k : Int) < P.length := by omega
      rcases (HP.out.below hB : SlLd wr A P) with hnil | ⟨pb, po, hAA, plt, PL⟩
      · rw [hnil] at hkl; simp at hkl
      rcases (HR.out.below hB : SlLd wr B P) with hnil | ⟨rb, ro, hBB, rlt, RL⟩
      · rw [hnil] at hkl; simp at hkl
      subst hAA hBB
      obtain ⟨c0, c1, c2, c3⟩ := PL k hkl
      obtain ⟨d0, d1, d2, d3⟩ := RL k hkl
      obtain ⟨p0, hp0⟩ : ∃ x, Hid (P[k].a = x) := ⟨P[k].a, Lib.hid rfl⟩
      obtain ⟨p1, hp1⟩ : ∃ x, Hid (P[k].b = x) := ⟨P[k].b, Lib.hid rfl⟩
      obtain ⟨p2, hp2⟩ : ∃ x, Hid (P[k].c = x) := ⟨P[k].c, Lib.hid rfl⟩
      obtain ⟨p3, hp3⟩ : ∃ x, Hid (P[k].d = x) := ⟨P[k].d, Lib.hid rfl⟩
      rw [hp0.out] at c0 d0
      rw [hp1.out] at c1 d1
      rw [hp2.out] at c2 d2
      rw [hp3.out] at c3 d3
      clear PL RL hp0 hp1 hp2 hp3
      go_upto_region 6 with (fail)
      go_region_held3 (fun w' => w'.cell? ⟨pb, po + k * 4, none⟩ = some (.int .i64 p0) ∧ w'.cell? ⟨pb, po + k * 4 + 1, none⟩ = some (.int .i64 p1) ∧ w'.cell? ⟨pb, po + k * 4 + 2, none⟩ = some (.int .i64 p2) ∧ w'.cell? ⟨pb, po + k * 4 + 3, none⟩ = some (.int .i64 p3) ∧ w'.cell? ⟨rb, ro + k * 4, none⟩ = some (.int .i64 p0) ∧ w'.cell? ⟨rb, ro + k * 4 + 1, none⟩ = some (.int .i64 p1) ∧ w'.cell? ⟨rb, ro + k * 4 + 2, none⟩ = some (.int .i64 p2) ∧ w'.cell? ⟨rb, ro + k * 4 + 3, none⟩ = some (.int .i64 p3)) (simp [go_sem, *]) (fail)
      go_wp2
      go_roundw
      case rel => exact ⟨k + 1, by omega, by go_num, (by (repeat (first | (with_reducible refine Below.drew ?_) | (with_reducible refine below_drewN ?_ _) | (with_reducible refine Below.alloc ?_ (by first | omega | (simp; done) | (simp; omega) | (simp at *; omega)) _) | (with_reducible refine Below.setCell ?_ (by first | omega | (simp; done) | (simp; omega) | (simp at *; omega)) _) | (with_reducible exact Below.refl _ _) | (with_reducible assumption) | (with_reducible refine Below.trans ?_ (Below.mono (by assumption) (by first | omega | (simp; done) | (simp; omega) | (simp at *; omega)))))))⟩
      case measure => (simp [intOf]) <;> omega
    · have hkl2 : ¬ (k : Int) < P.length := by omega
      go_wp2
      go_ret
      exact ⟨rfl, hB⟩
end Go.Proofs.Ytchfhhmmjioajaa
