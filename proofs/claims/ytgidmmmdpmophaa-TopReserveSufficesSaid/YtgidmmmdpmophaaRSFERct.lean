import Derived.Test.YtgidmmmdpmophaaRSFECta
import Derived.Test.YtgidmmmdpmophaaRSFERfP
import Derived.Test.YtgidmmmdpmophaaRSFELeg
import Derived.Test.YtgidmmmdpmophaaRSFEFx
import Derived.Test.YtgidmmmdpmophaaRSFEBr
import Derived.Outline
namespace Go.Proofs.Ytgidmmmdpmophaa
open Go.ChangeShapes Go.WideShapes Go.ChangeAt Go.RowKit
set_option linter.unusedVariables false
set_option linter.unusedSimpArgs false
attribute [local go_sem ↓] Go.wp_at_zero Go.wp_at_succ

theorem upE_spec {n d : Int} (d0 : 0 < d) : n ≤ d * upE n d ∧ d * (upE n d - 1) < n := by
  unfold upE
  have h := Int.emod_add_mul_ediv (n + d - 1) d
  have r0 := Int.emod_nonneg (n + d - 1) (show d ≠ 0 by omega)
  have r1 := Int.emod_lt_of_pos (n + d - 1) d0
  rw [Int.mul_sub]
  omega
theorem upE_uniq {n d q : Int} (d0 : 0 < d) (h1 : n ≤ d * q) (h2 : d * (q - 1) < n) : upE n d = q := by
  refine Int.le_antisymm (upE_le d0 h1) ?_
  unfold upE
  refine Int.le_ediv_of_mul_le d0 ?_
  rw [Int.mul_sub] at h2
  rw [Int.mul_comm]
  omega
theorem upE_cancel {n d s : Int} (d0 : 0 < d) (s0 : 0 < s) : upE (n * s) (d * s) = upE n d := by
  obtain ⟨h1, h2⟩ := upE_spec (n := n) d0
  obtain ⟨q, hq⟩ : ∃ q, upE n d = q := ⟨_, rfl⟩
  rw [hq] at h1 h2 ⊢
  refine upE_uniq (Int.mul_pos d0 s0) ?_ ?_
  · have := Int.mul_le_mul_of_nonneg_right h1 (show 0 ≤ s by omega)
    rw [show d * s * q = d * q * s by rw [Int.mul_assoc, Int.mul_comm s q, ← Int.mul_assoc]]
    exact this
  · have := Int.mul_lt_mul_of_pos_right h2 s0
    rw [show d * s * (q - 1) = d * (q - 1) * s by rw [Int.mul_assoc, Int.mul_comm s (q - 1), ← Int.mul_assoc]]
    exact this
theorem binV_end {x : Pl} {b : Int} (s0 : 1 ≤ x.s) : binV x b x.s = brV x b := by
  unfold binV brV
  rw [show b * (2 * (x.su + x.bd) * x.s + (x.su + x.d - (x.su + x.bd)) * x.s) * x.s = b * (x.su + x.bd + (x.su + x.d)) * x.s * x.s by
    congr 1
    rw [← Int.add_mul, ← Int.mul_assoc]
    congr 2
    omega]
  exact upE_cancel (by decide) (by omega)
set_option maxRecDepth 100000 in
set_option maxHeartbeats 1000000 in
theorem refSeconds_is (nm : ByteArray) (s : Int) (G : List Ga) (D : List Le) (A B : Option Addr) (gn gc dn dc : Nat) (S : Int) (w : World) (hgn : Hid (gn = G.length)) (hdn : Hid (dn = D.length)) (hok : Hid (PlnOk nm s G D)) (hG : Hid (SlRows gaV 2 w A G)) (hD : Hid (SlRows leV 3 w B D)) (hS : Hid (secT D dn = S)) :
    Calls Try.prog 8 #[.agg #[.string nm, .int .i64 s, .slice A gn gc, .slice B dn dc]] w fun e w' => e = .returned (.int .i64 S) ∧ Below w.heap.size w w' := by
  have d60 : dn ≤ 60 := by have := hok.out.d6; have := hdn.out; omega
  go_enter Try.func8, Try.ntmps8
  go_wp2
  go_loopw [3, 4] (fun v i wr => ∃ (k : Nat) (z : Int), k ≤ dn ∧ i = .int .i64 k ∧ v = .int .i64 z ∧ Hid (secT D k = z) ∧ Hid (BlkF wr w.heap.size w.heap.size [.string nm, .int .i64 s, .slice A gn gc, .slice B dn dc]) ∧ Below w.heap.size w wr) (fun _ i _ => dn - (intOf i).toNat)
  case atStart => exact ⟨0, 0, by omega, rfl, rfl, Lib.hid rfl, Lib.hid (BlkF.made (B := w.heap.size) w [.string nm, .int .i64 s, .slice A gn gc, .slice B dn dc] 25 (Nat.le_refl _)), (by (repeat (first | (with_reducible refine Below.drew ?_) | (with_reducible refine below_drewN ?_ _) | (with_reducible refine Below.alloc ?_ (by first | omega | (simp; done) | (simp; omega) | (simp at *; omega)) _) | (with_reducible refine Below.setCell ?_ (by first | omega | (simp; done) | (simp; omega) | (simp at *; omega)) _) | (with_reducible exact Below.refl _ _) | (with_reducible assumption) | (with_reducible refine Below.trans ?_ (Below.mono (by assumption) (by first | omega | (simp; done) | (simp; omega) | (simp at *; omega)))))))⟩
  case round =>
    obtain ⟨k, z, hk, rfl, rfl, hzz, hP, hB⟩ := hrel
    have zb := hB.size
    obtain ⟨c0, c1, c2, c3⟩ := b4 hP.out
    by_cases hkn : k < dn
    · have kn : (k : Int) < (dn : Int) := by omega
      have k0 : ¬ (k : Int) < 0 := by omega
      have hkD : k < D.length := by have := hdn.out; omega
      obtain ⟨lb, lo, rfl, hlt, hR⟩ := (hD.out.below hB).at' hkD
      have f0 := (le_at hR hkD).1
      obtain ⟨s9, hs9⟩ : ∃ z, Hid (D[k].s = z) := ⟨_, Lib.hid rfl⟩
      rw [hs9.out] at f0
      have b9 := (hok.out.le _ (List.getElem_mem hkD))
      rw [hs9.out] at b9
      have bz := hok.out.sec k
      rw [hzz.out] at bz
      have ww : IntKind.i64.wrap (z + s9) = z + s9 := IntWalk.i64_in _ (by omega)
      have hz2 : Hid (secT D (k + 1) = z + s9) := Lib.hid (by rw [secT_succ hkD, hzz.out, hs9.out])
      clear hR b9 bz
      go_wp2
      go_roundw
      case rel => exact ⟨k + 1, z + s9, by omega, by go_num, rfl, hz2, hP, hB⟩
      case measure => simp [intOf]; omega
    · have kn : ¬ (k : Int) < (dn : Int) := by omega
      have hr : Hid (z = S) := Lib.hid (by rw [← hzz.out, ← hS.out, show k = dn by omega])
      go_wp2
      go_ret
      exact ⟨ret_int hr.out, hB⟩
/-- A short plan that is wrong, or ends soon, or too late. -/
def briefV (sb : Bool) (E0 S : Int) : Bool := sb && (decide (¬ E0 = 0) || (decide (S ≤ 400) || decide (20000 < S)))
set_option maxHeartbeats 1000000 in
theorem Brief_is (nm : ByteArray) (s : Int) (G : List Ga) (D : List Le) (A B : Option Addr) (gn gc dn dc : Nat) (sb p : Bool) (N : Nat) (E0 : Int) (w : World) (hz : nm.size ≤ 9223372036854775807) (hgn : Hid (gn = G.length)) (hgl : gn ≤ 9223372036854775807) (hdn : Hid (dn = D.length)) (hdl : dn ≤ 9223372036854775807) (hG : Hid (SlRows gaV 2 w A G)) (hD : Hid (SlRows leV 3 w B D)) (hS : Hid (shortB nm.size dn gn = sb)) (hE0 : Hid (plnP nm s G D = (N, E0))) (hp : Hid (briefV sb E0 (secT D dn) = p)) :
    Calls Try.prog 5 #[.agg #[.string nm, .int .i64 s, .slice A gn gc, .slice B dn dc]] w fun e w' => e = .returned (.bool p) ∧ Below w.heap.size w w' := by
  go_enter Try.func5, Try.ntmps5
  go_wp2_with fail
  refine (Short_is nm s G D A B gn gc dn dc sb _ hz hgl hdl hS).mono ?_
  rintro e x1 ⟨rfl, hb1⟩
  have hc1 : Below w.heap.size w x1 := ((Below.refl _ _).alloc (by first | exact Nat.le_refl _ | (simp; done) | (simp; omega)) _).trans (hb1.mono (by first | exact Nat.le_refl _ | (simp; done) | (simp; omega)))
  have hB1 : Below w.heap.size w x1 := hc1
  have zu1 := hB1.size
  have PB : Hid (BlkF x1 w.heap.size (w.heap.size) [.string nm, .int .i64 s, .slice A gn gc, .slice B dn dc]) := Lib.hid ((BlkF.made (B := w.heap.size) w [.string nm, .int .i64 s, .slice A gn gc, .slice B dn dc] 25 (by first | exact Nat.le_refl _ | (simp; done) | (simp; omega))).below hb1)
  have zPB1 := PB.out.lt
  clear hb1
  obtain ⟨PB_1_0, PB_1_1, PB_1_2, PB_1_3⟩ := b4 PB.out
  have lPB_1 := PB.out.lt
  have nPB_1 : x1.heap.size ≠ w.heap.size := by omega
  have mPB_1 : w.heap.size ≠ x1.heap.size := by omega
  cases sb with
  | false =>
    have hr : Hid (p = false) := Lib.hid (by rw [← hp.out]; rfl)
    go_wp2
    go_ret
    first | exact ⟨ret_bool hr.out.symm, hB1⟩ | exact ⟨ret_bool hr.out, hB1⟩ | exact ⟨rfl, hB1⟩
  | true =>
    have hz6 : nm.size ≤ 1000000 := by have := shortB_le hS.out; omega
    go_wp2_with fail
    refine (refErr_any nm s G D A B gn gc dn dc N E0 _ hz6 hgn hgl hdn hdl (Lib.hid (hG.out.below hB1)) (Lib.hid (hD.out.below hB1)) hE0).mono ?_
    rintro e x2 ⟨rfl, hb2⟩
    have hc2 : Below x1.heap.size x1 x2 := hb2
    have hB2 : Below w.heap.size w x2 := hB1.trans (hc2.mono hB1.size)
    have zu2 := hB2.size
    replace PB := Lib.hid (PB.out.below hc2)
    clear PB_1_0 PB_1_1 PB_1_2 PB_1_3 lPB_1 nPB_1 mPB_1
    clear hb2 hB1 zu1 hc1
    obtain ⟨PB_2_0, PB_2_1, PB_2_2, PB_2_3⟩ := b4 PB.out
    have lPB_2 := PB.out.lt
    have nPB_2 : x2.heap.size ≠ w.heap.size := by omega
    have mPB_2 : w.heap.size ≠ x2.heap.size := by omega
    by_cases h0 : E0 = 0
    · subst h0
      have hok := Lib.hid (pln_ok hE0.out)
      obtain ⟨S, hSS⟩ : ∃ z, Hid (secT D dn = z) := ⟨_, Lib.hid rfl⟩
      have hp2 : (decide (S ≤ 400) || decide (20000 < S)) = p := by
        have := hp.out
        unfold briefV at this
        rw [hSS.out] at this
        simpa using this
      go_wp2_with fail
      refine (refSeconds_is nm s G D A B gn gc dn dc S _ hgn hdn hok (Lib.hid (hG.out.below hB2)) (Lib.hid (hD.out.below hB2)) hSS).mono ?_
      rintro e x3 ⟨rfl, hb3⟩
      have hc3 : Below x2.heap.size x2 x3 := hb3
      have hB3 : Below w.heap.size w x3 := hB2.trans (hc3.mono hB2.size)
      have zu3 := hB3.size
      replace PB := Lib.hid (PB.out.below hc3)
      clear PB_2_0 PB_2_1 PB_2_2 PB_2_3 lPB_2 nPB_2 mPB_2
      clear hb3 hB2 zu2 hc2
      obtain ⟨PB_3_0, PB_3_1, PB_3_2, PB_3_3⟩ := b4 PB.out
      have lPB_3 := PB.out.lt
      have nPB_3 : x3.heap.size ≠ w.heap.size := by omega
      have mPB_3 : w.heap.size ≠ x3.heap.size := by omega
      by_cases h4 : S ≤ 400
      · have hr : Hid (p = true) := Lib.hid (by rw [← hp2]; simp [h4])
        go_wp2
        go_ret
        first | exact ⟨ret_bool hr.out.symm, hB3⟩ | exact ⟨ret_bool hr.out, hB3⟩ | exact ⟨rfl, hB3⟩
      · by_cases h2 : 20000 < S
        · have hr : Hid (p = true) := Lib.hid (by rw [← hp2]; simp [h2])
          go_wp2
          go_ret
          first | exact ⟨ret_bool hr.out.symm, hB3⟩ | exact ⟨ret_bool hr.out, hB3⟩ | exact ⟨rfl, hB3⟩
        · have hr : Hid (p = false) := Lib.hid (by rw [← hp2]; simp; omega)
          go_wp2
          go_ret
          first | exact ⟨ret_bool hr.out.symm, hB3⟩ | exact ⟨ret_bool hr.out, hB3⟩ | exact ⟨rfl, hB3⟩
    · have h1 : (E0 != 0) = true := by simpa using h0
      have hr : Hid (p = true) := Lib.hid (by rw [← hp.out]; unfold briefV; simp [h0])
      go_wp2
      go_ret
      first | exact ⟨ret_bool hr.out.symm, hB2⟩ | exact ⟨ret_bool hr.out, hB2⟩ | exact ⟨rfl, hB2⟩
end Go.Proofs.Ytgidmmmdpmophaa
