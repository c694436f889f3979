import Derived.Test.YtijdphlejokijaaGreatERSECta
import Derived.Test.YtijdphlejokijaaGreatERSEEnds
import Derived.Test.YtijdphlejokijaaGreatERSERck
import Derived.Outline
namespace Go.Proofs.YtijdphlejokijaaGreat
open Go.ChangeShapes Go.WideShapes Go.ChangeAt Go.RowKit
set_option linter.unusedVariables false
set_option linter.unusedSimpArgs false
attribute [local go_sem ↓] Go.wp_at_zero Go.wp_at_succ

theorem upE_spec {n d : Int} (d0 : 0 < d) : n ≤ d * upE n d ∧ d * (upE n d - 1) < n := by
  unfold upE
  have h := Int.emod_add_mul_ediv (n + d - 1) d
  have r0 := Int.emod_nonneg (n + d - 1) (show d ≠ 0 by omega)
  have r1 := Int.emod_lt_of_pos (n + d - 1) d0
  rw [Int.mul_sub]
  omega
theorem upE_uniq {n d q : Int} (d0 : 0 < d) (h1 : n ≤ d * q) (h2 : d * (q - 1) < n) : upE n d = q := by
  refine Int.le_antisymm (upE_le d0 h1) ?_
  unfold upE
  refine Int.le_ediv_of_mul_le d0 ?_
  rw [Int.mul_sub] at h2
  rw [Int.mul_comm]
  omega
theorem upE_cancel {n d s : Int} (d0 : 0 < d) (s0 : 0 < s) : upE (n * s) (d * s) = upE n d := by
  obtain ⟨h1, h2⟩ := upE_spec (n := n) d0
  obtain ⟨q, hq⟩ : ∃ q, upE n d = q := ⟨_, rfl⟩
  rw [hq] at h1 h2 ⊢
  refine upE_uniq (Int.mul_pos d0 s0) ?_ ?_
  · have := Int.mul_le_mul_of_nonneg_right h1 (show 0 ≤ s by omega)
    rw [show d * s * q = d * q * s by rw [Int.mul_assoc, Int.mul_comm s q, ← Int.mul_assoc]]
    exact this
  · have := Int.mul_lt_mul_of_pos_right h2 s0
    rw [show d * s * (q - 1) = d * (q - 1) * s by rw [Int.mul_assoc, Int.mul_comm s (q - 1), ← Int.mul_assoc]]
    exact this
theorem binV_end {x : Pl} {b : Int} (s0 : 1 ≤ x.s) : binV x b x.s = brV x b := by
  unfold binV brV
  rw [show b * (2 * (x.su + x.bd) * x.s + (x.su + x.d - (x.su + x.bd)) * x.s) * x.s = b * (x.su + x.bd + (x.su + x.d)) * x.s * x.s by
    congr 1
    rw [← Int.add_mul, ← Int.mul_assoc]
    congr 2
    omega]
  exact upE_cancel (by decide) (by omega)
set_option maxRecDepth 100000 in
set_option maxHeartbeats 1000000 in
theorem refSeconds_is (nm : ByteArray) (s : Int) (G : List Ga) (D : List Le) (A B : Option Addr) (gn gc dn dc : Nat) (S : Int) (w : World) (hgn : Hid (gn = G.length)) (hdn : Hid (dn = D.length)) (hok : Hid (PlnOk nm s G D)) (hG : Hid (SlRows gaV 2 w A G)) (hD : Hid (SlRows leV 3 w B D)) (hS : Hid (secT D dn = S)) :
    Calls Tryz.prog 15 #[.agg #[.string nm, .int .i64 s, .slice A gn gc, .slice B dn dc]] w fun e w' => e = .returned (.int .i64 S) ∧ Below w.heap.size w w' := by
  have d60 : dn ≤ 60 := by have := hok.out.d6; have := hdn.out; omega
  go_enter Tryz.func15, Tryz.ntmps15
  go_wp2
  go_loopw [3, 4] (fun v i wr => ∃ (k : Nat) (z : Int), k ≤ dn ∧ i = .int .i64 k ∧ v = .int .i64 z ∧ Hid (secT D k = z) ∧ Hid (BlkF wr w.heap.size w.heap.size [.string nm, .int .i64 s, .slice A gn gc, .slice B dn dc]) ∧ Below w.heap.size w wr) (fun _ i _ => dn - (intOf i).toNat)
  case atStart => exact ⟨0, 0, by omega, rfl, rfl, Lib.hid rfl, Lib.hid (BlkF.made (B := w.heap.size) w [.string nm, .int .i64 s, .slice A gn gc, .slice B dn dc] 25 (Nat.le_refl _)), (by (repeat (first | (with_reducible refine Below.drew ?_) | (with_reducible refine below_drewN ?_ _) | (with_reducible refine Below.alloc ?_ (by first | omega | (simp; done) | (simp; omega) | (simp at *; omega)) _) | (with_reducible refine Below.setCell ?_ (by first | omega | (simp; done) | (simp; omega) | (simp at *; omega)) _) | (with_reducible exact Below.refl _ _) | (with_reducible assumption) | (with_reducible refine Below.trans ?_ (Below.mono (by assumption) (by first | omega | (simp; done) | (simp; omega) | (simp at *; omega)))))))⟩
  case round =>
    obtain ⟨k, z, hk, rfl, rfl, hzz, hP, hB⟩ := hrel
    have zb := hB.size
    obtain ⟨c0, c1, c2, c3⟩ := b4 hP.out
    by_cases hkn : k < dn
    · have kn : (k : Int) < (dn : Int) := by omega
      have k0 : ¬ (k : Int) < 0 := by omega
      have hkD : k < D.length := by have := hdn.out; omega
      obtain ⟨lb, lo, rfl, hlt, hR⟩ := (hD.out.below hB).at' hkD
      have f0 := (le_at hR hkD).1
      obtain ⟨s9, hs9⟩ : ∃ z, Hid (D[k].s = z) := ⟨_, Lib.hid rfl⟩
      rw [hs9.out] at f0
      have b9 := (hok.out.le _ (List.getElem_mem hkD))
      rw [hs9.out] at b9
      have bz := hok.out.sec k
      rw [hzz.out] at bz
      have ww : IntKind.i64.wrap (z + s9) = z + s9 := IntWalk.i64_in _ (by omega)
      have hz2 : Hid (secT D (k + 1) = z + s9) := Lib.hid (by rw [secT_succ hkD, hzz.out, hs9.out])
      clear hR b9 bz
      go_wp2
      go_roundw
      case rel => exact ⟨k + 1, z + s9, by omega, by go_num, rfl, hz2, hP, hB⟩
      case measure => simp [intOf]; omega
    · have kn : ¬ (k : Int) < (dn : Int) := by omega
      have hr : Hid (z = S) := Lib.hid (by rw [← hzz.out, ← hS.out, show k = dn by omega])
      go_wp2
      go_ret
      exact ⟨ret_int hr.out, hB⟩
/-- A short plan that is wrong, or ends soon, or too late. -/
def briefV (sb : Bool) (E0 S : Int) : Bool := sb && (decide (¬ E0 = 0) || (decide (S ≤ 400) || decide (20000 < S)))
set_option maxHeartbeats 1000000 in
theorem Brief_is (nm : ByteArray) (s : Int) (G : List Ga) (D : List Le) (A B : Option Addr) (gn gc dn dc : Nat) (sb p : Bool) (N : Nat) (E0 : Int) (w : World) (hz : nm.size ≤ 9223372036854775807) (hgn : Hid (gn = G.length)) (hgl : gn ≤ 9223372036854775807) (hdn : Hid (dn = D.length)) (hdl : dn ≤ 9223372036854775807) (hG : Hid (SlRows gaV 2 w A G)) (hD : Hid (SlRows leV 3 w B D)) (hS : Hid (shortB nm.size dn gn = sb)) (hE0 : Hid (plnP nm s G D = (N, E0))) (hp : Hid (briefV sb E0 (secT D dn) = p)) :
    Calls Tryz.prog 6 #[.agg #[.string nm, .int .i64 s, .slice A gn gc, .slice B dn dc]] w fun e w' => e = .returned (.bool p) ∧ Below w.heap.size w w' := by
  go_enter Tryz.func6, Tryz.ntmps6
  go_wp2_with fail
  refine (Short_is nm s G D A B gn gc dn dc sb _ hz hgl hdl hS).mono ?_
  rintro e x1 ⟨rfl, hb1⟩
  have hc1 : Below w.heap.size w x1 := ((Below.refl _ _).alloc (by first | exact Nat.le_refl _ | (simp; done) | (simp; omega)) _).trans (hb1.mono (by first | exact Nat.le_refl _ | (simp; done) | (simp; omega)))
  have hB1 : Below w.heap.size w x1 := hc1
  have zu1 := hB1.size
  have PB : Hid (BlkF x1 w.heap.size (w.heap.size) [.string nm, .int .i64 s, .slice A gn gc, .slice B dn dc]) := Lib.hid ((BlkF.made (B := w.heap.size) w [.string nm, .int .i64 s, .slice A gn gc, .slice B dn dc] 25 (by first | exact Nat.le_refl _ | (simp; done) | (simp; omega))).below hb1)
  have zPB1 := PB.out.lt
  clear hb1
  obtain ⟨PB_1_0, PB_1_1, PB_1_2, PB_1_3⟩ := b4 PB.out
  have lPB_1 := PB.out.lt
  have nPB_1 : x1.heap.size ≠ w.heap.size := by omega
  have mPB_1 : w.heap.size ≠ x1.heap.size := by omega
  cases sb with
  | false =>
    have hr : Hid (p = false) := Lib.hid (by rw [← hp.out]; rfl)
    go_wp2
    go_ret
    first | exact ⟨ret_bool hr.out.symm, hB1⟩ | exact ⟨ret_bool hr.out, hB1⟩ | exact ⟨rfl, hB1⟩
  | true =>
    have hz6 : nm.size ≤ 1000000 := by have := shortB_le hS.out; omega
    go_wp2_with fail
    refine (refErr_any nm s G D A B gn gc dn dc N E0 _ hz6 hgn hgl hdn hdl (Lib.hid (hG.out.below hB1)) (Lib.hid (hD.out.below hB1)) hE0).mono ?_
    rintro e x2 ⟨rfl, hb2⟩
    have hc2 : Below x1.heap.size x1 x2 := hb2
    have hB2 : Below w.heap.size w x2 := hB1.trans (hc2.mono hB1.size)
    have zu2 := hB2.size
    replace PB := Lib.hid (PB.out.below hc2)
    clear PB_1_0 PB_1_1 PB_1_2 PB_1_3 lPB_1 nPB_1 mPB_1
    clear hb2 hB1 zu1 hc1
    obtain ⟨PB_2_0, PB_2_1, PB_2_2, PB_2_3⟩ := b4 PB.out
    have lPB_2 := PB.out.lt
    have nPB_2 : x2.heap.size ≠ w.heap.size := by omega
    have mPB_2 : w.heap.size ≠ x2.heap.size := by omega
    by_cases h0 : E0 = 0
    · subst h0
      have hok := Lib.hid (pln_ok hE0.out)
      obtain ⟨S, hSS⟩ : ∃ z, Hid (secT D dn = z) := ⟨_, Lib.hid rfl⟩
      have hp2 : (decide (S ≤ 400) || decide (20000 < S)) = p := by
        have := hp.out
        unfold briefV at this
        rw [hSS.out] at this
        simpa using this
      go_wp2_with fail
      refine (refSeconds_is nm s G D A B gn gc dn dc S _ hgn hdn hok (Lib.hid (hG.out.below hB2)) (Lib.hid (hD.out.below hB2)) hSS).mono ?_
      rintro e x3 ⟨rfl, hb3⟩
      have hc3 : Below x2.heap.size x2 x3 := hb3
      have hB3 : Below w.heap.size w x3 := hB2.trans (hc3.mono hB2.size)
      have zu3 := hB3.size
      replace PB := Lib.hid (PB.out.below hc3)
      clear PB_2_0 PB_2_1 PB_2_2 PB_2_3 lPB_2 nPB_2 mPB_2
      clear hb3 hB2 zu2 hc2
      obtain ⟨PB_3_0, PB_3_1, PB_3_2, PB_3_3⟩ := b4 PB.out
      have lPB_3 := PB.out.lt
      have nPB_3 : x3.heap.size ≠ w.heap.size := by omega
      have mPB_3 : w.heap.size ≠ x3.heap.size := by omega
      by_cases h4 : S ≤ 400
      · have hr : Hid (p = true) := Lib.hid (by rw [← hp2]; simp [h4])
        go_wp2
        go_ret
        first | exact ⟨ret_bool hr.out.symm, hB3⟩ | exact ⟨ret_bool hr.out, hB3⟩ | exact ⟨rfl, hB3⟩
      · by_cases h2 : 20000 < S
        · have hr : Hid (p = true) := Lib.hid (by rw [← hp2]; simp [h2])
          go_wp2
          go_ret
          first | exact ⟨ret_bool hr.out.symm, hB3⟩ | exact ⟨ret_bool hr.out, hB3⟩ | exact ⟨rfl, hB3⟩
        · have hr : Hid (p = false) := Lib.hid (by rw [← hp2]; simp; omega)
          go_wp2
          go_ret
          first | exact ⟨ret_bool hr.out.symm, hB3⟩ | exact ⟨ret_bool hr.out, hB3⟩ | exact ⟨rfl, hB3⟩
    · have h1 : (E0 != 0) = true := by simpa using h0
      have hr : Hid (p = true) := Lib.hid (by rw [← hp.out]; unfold briefV; simp [h0])
      go_wp2
      go_ret
      first | exact ⟨ret_bool hr.out.symm, hB2⟩ | exact ⟨ret_bool hr.out, hB2⟩ | exact ⟨rfl, hB2⟩
set_option maxRecDepth 100000 in
set_option maxHeartbeats 4000000 in
theorem refPartly_is (nm : ByteArray) (s : Int) (G : List Ga) (D : List Le) (A B : Option Addr) (gn gc dn dc : Nat) (k : Nat) (b q v : Int) (w : World) (hgn : Hid (gn = G.length)) (hdn : Hid (dn = D.length)) (hok : Hid (PlnOk nm s G D)) (hG : Hid (SlRows gaV 2 w A G)) (hD : Hid (SlRows leV 3 w B D)) (hk : k < dn) (b0 : 1 ≤ b) (b1 : b ≤ 100000) (q0 : 0 ≤ q) (q1 : q ≤ (legK s G D k).s) (hys1 : (legK s G D k).s ≤ 20000) (hv : Hid (binV (legK s G D k) b q = v)) :
    Calls Tryz.prog 89 #[.agg #[.string nm, .int .i64 s, .slice A gn gc, .slice B dn dc], .int .i64 (k : Int), .int .i64 b, .int .i64 q] w fun e w' => e = .returned (.int .i64 v) ∧ Below w.heap.size w w' := by
  have hkD : k < D.length := by have := hdn.out; omega
  obtain ⟨lb, lo, rfl, hll, hDR⟩ := hD.out.at' hkD
  obtain ⟨f0, f1, f2⟩ := le_at hDR hkD
  obtain ⟨s9, hs9⟩ : ∃ z, Hid (D[k].s = z) := ⟨_, Lib.hid rfl⟩
  rw [hs9.out] at f0
  have hPok := legK_ok hok.out hkD
  obtain ⟨y, hy⟩ : ∃ z, Hid (legK s G D k = z) := ⟨_, Lib.hid rfl⟩
  have hys : y.s = s9 := by rw [← hy.out]; show (D.getD k default).s = s9; rw [getD_leE hkD]; exact hs9.out
  have HEN := Lib.hid (fun X hG hD => refEnds_is nm s G D A (some ⟨lb, lo, none⟩) gn gc dn dc k X hgn hdn hok hk hG hD)
  rw [hy.out] at hPok HEN
  have k0 : ¬ (k : Int) < 0 := by omega
  have kn : (k : Int) < (dn : Int) := by omega
  rw [hy.out] at hv q1 hys1
  have bb := bin_bd hPok b0 b1 q0 q1 hys1
  have hss := hPok.s
  rw [hys] at bb hss
  obtain ⟨x1', hx1⟩ : ∃ z, Hid (y.su + y.bd = z) := ⟨_, Lib.hid rfl⟩
  obtain ⟨x2', hx2⟩ : ∃ z, Hid (y.su + y.d = z) := ⟨_, Lib.hid rfl⟩
  have hsu := hPok.su
  have hbd := hPok.bd
  have hdd := hPok.d
  have hv2 : Hid (upE (b * q * (2 * x1' * s9 + (x2' - x1') * q)) (120000 * s9) = v) := Lib.hid (by
    rw [← hv.out, ← hx1.out, ← hx2.out, ← hys]
    unfold binV
    rw [Int.mul_assoc b q, Int.mul_comm q, ← Int.mul_assoc])
  have HEN2 := HEN.out
  rw [hx1.out, hx2.out] at bb HEN2
  obtain ⟨m0, m1, m2, m3, m4, m5, m6, m7, m8⟩ := bb
  have hxb : 0 ≤ x1' ∧ x1' ≤ 31100 := by have := hx1.out; omega
  have hxc : 0 ≤ x2' ∧ x2' ≤ 31100 := by have := hx2.out; omega
  have hq2 : q ≤ 20000 := by omega
  have nb := mul_bd (show 0 ≤ b by omega) b1 q0 hq2
  have m9 : b * q * (2 * x1' * s9 + (x2' - x1') * q) = b * (2 * x1' * s9 + (x2' - x1') * q) * q := by rw [Int.mul_assoc b q, Int.mul_comm q, ← Int.mul_assoc]
  have ma := mul_bd hxb.1 hxb.2 (show 0 ≤ s9 by omega) (show s9 ≤ 20000 by omega)
  have wa : IntKind.i64.wrap (b * q) = b * q := IntWalk.i64_in _ (by omega)
  have wb : IntKind.i64.wrap (2 * x1') = 2 * x1' := IntWalk.i64_in _ (by omega)
  have wc : IntKind.i64.wrap (2 * x1' * s9) = 2 * x1' * s9 := IntWalk.i64_in _ (by omega)
  have wd : IntKind.i64.wrap (x2' - x1') = x2' - x1' := IntWalk.i64_in _ (by omega)
  have we : IntKind.i64.wrap ((x2' - x1') * q) = (x2' - x1') * q := IntWalk.i64_in _ (by omega)
  have wf : IntKind.i64.wrap (2 * x1' * s9 + (x2' - x1') * q) = 2 * x1' * s9 + (x2' - x1') * q := IntWalk.i64_in _ (by omega)
  have wg : IntKind.i64.wrap (b * q * (2 * x1' * s9 + (x2' - x1') * q)) = b * q * (2 * x1' * s9 + (x2' - x1') * q) := IntWalk.i64_in _ (by rw [m9]; omega)
  have wh : IntKind.i64.wrap (120000 * s9) = 120000 * s9 := IntWalk.i64_in _ (by omega)
  have mA : 0 ≤ b * q * (2 * x1' * s9 + (x2' - x1') * q) := by rw [m9]; exact m7
  have mB : b * q * (2 * x1' * s9 + (x2' - x1') * q) ≤ 9000000000000000000 := by rw [m9]; omega
  have HEN := Lib.hid HEN2
  clear HEN2 hDR f1 f2 hsu hbd hdd m0 m1 m2 m3 m4 m5 m6 m7 m8 m9 ma nb
  go_enter Tryz.func89, Tryz.ntmps89
  go_wp2_with fail
  refine (HEN.out _ (Lib.hid (hG.out.below (by (repeat (first | (with_reducible refine Below.drew ?_) | (with_reducible refine below_drewN ?_ _) | (with_reducible refine Below.alloc ?_ (by first | omega | (simp; done) | (simp; omega) | (simp at *; omega)) _) | (with_reducible refine Below.setCell ?_ (by first | omega | (simp; done) | (simp; omega) | (simp at *; omega)) _) | (with_reducible exact Below.refl _ _) | (with_reducible assumption) | (with_reducible refine Below.trans ?_ (Below.mono (by assumption) (by first | omega | (simp; done) | (simp; omega) | (simp at *; omega))))))))) (Lib.hid (hD.out.below (by (repeat (first | (with_reducible refine Below.drew ?_) | (with_reducible refine below_drewN ?_ _) | (with_reducible refine Below.alloc ?_ (by first | omega | (simp; done) | (simp; omega) | (simp at *; omega)) _) | (with_reducible refine Below.setCell ?_ (by first | omega | (simp; done) | (simp; omega) | (simp at *; omega)) _) | (with_reducible exact Below.refl _ _) | (with_reducible assumption) | (with_reducible refine Below.trans ?_ (Below.mono (by assumption) (by first | omega | (simp; done) | (simp; omega) | (simp at *; omega)))))))))).mono ?_
  rintro e x1 ⟨rfl, hb1⟩
  have hc1 : Below w.heap.size w x1 := ((Below.refl _ _).alloc (by first | exact Nat.le_refl _ | (simp; done) | (simp; omega)) _).trans (hb1.mono (by first | exact Nat.le_refl _ | (simp; done) | (simp; omega)))
  have hB1 : Below w.heap.size w x1 := hc1
  have zu1 := hB1.size
  have PB : Hid (BlkF x1 w.heap.size (w.heap.size) [.string nm, .int .i64 s, .slice A gn gc, .slice (some ⟨lb, lo, none⟩) dn dc]) := Lib.hid ((BlkF.made (B := w.heap.size) w [.string nm, .int .i64 s, .slice A gn gc, .slice (some ⟨lb, lo, none⟩) dn dc] 25 (by first | exact Nat.le_refl _ | (simp; done) | (simp; omega))).below hb1)
  have zPB1 := PB.out.lt
  clear hb1
  obtain ⟨PB_1_0, PB_1_1, PB_1_2, PB_1_3⟩ := b4 PB.out
  have lPB_1 := PB.out.lt
  have nPB_1 : x1.heap.size ≠ w.heap.size := by omega
  have mPB_1 : w.heap.size ≠ x1.heap.size := by omega
  have f0a := (hB1.cell (p := ⟨lb, lo + k * 3, none⟩) hll).trans f0
  have lla : lb < x1.heap.size := Nat.lt_of_lt_of_le hll hB1.size
  have llb : x1.heap.size ≠ lb := by omega
  have llc : lb ≠ x1.heap.size := by omega
  go_wp2_with fail
  refine (ceilU _ (120000 * s9) v _ mA mB (by omega) (by omega) hv2).mono ?_
  rintro e x3 ⟨rfl, rfl⟩
  go_wp2
  go_ret
  exact ⟨rfl, (by (repeat (first | (with_reducible refine Below.drew ?_) | (with_reducible refine below_drewN ?_ _) | (with_reducible refine Below.alloc ?_ (by first | omega | (simp; done) | (simp; omega) | (simp at *; omega)) _) | (with_reducible refine Below.setCell ?_ (by first | omega | (simp; done) | (simp; omega) | (simp at *; omega)) _) | (with_reducible exact Below.refl _ _) | (with_reducible assumption) | (with_reducible refine Below.trans ?_ (Below.mono (by assumption) (by first | omega | (simp; done) | (simp; omega) | (simp at *; omega)))))))⟩
set_option maxRecDepth 100000 in
set_option maxHeartbeats 4000000 in
theorem refConsumedAt_is (nm : ByteArray) (s : Int) (G : List Ga) (D : List Le) (A B : Option Addr) (gn gc dn dc : Nat) (b t : Int) (w : World) (hgn : Hid (gn = G.length)) (hdn : Hid (dn = D.length)) (hok : Hid (PlnOk nm s G D)) (hG : Hid (SlRows gaV 2 w A G)) (hD : Hid (SlRows leV 3 w B D)) (b0 : 1 ≤ b) (b1 : b ≤ 100000) (t0 : 0 ≤ t) (t1 : t ≤ 20000) (hS9 : secT D D.length ≤ 20000) :
    Calls Tryz.prog 62 #[.agg #[.string nm, .int .i64 s, .slice A gn gc, .slice B dn dc], .int .i64 b, .int .i64 t] w fun e w' => ∃ C, e = .returned (.slice (some ⟨C, 0, none⟩) gn gn) ∧ SlRows inV 1 w' (some ⟨C, 0, none⟩) (conT b t (legK s G D) gn (List.range dn)) ∧ Below w.heap.size w w' := by
  have g1 : 1 ≤ gn := by have := hok.out.g0; have := hgn.out; omega
  have g8 : gn ≤ 8 := by have := hok.out.g8; have := hgn.out; omega
  have d60 : dn ≤ 60 := by have := hok.out.d6; have := hdn.out; omega
  have hmk := fun (w : World) => mkIn8 g1 g8 w
  obtain ⟨ob, hob⟩ : ∃ z, w.heap.size + 1 = z := ⟨_, rfl⟩
  have hO0 : Hid (BlkF ((w.alloc (.cells #[.string nm, .int .i64 s, .slice A gn gc, .slice B dn dc] 25)).alloc (.cells (Array.replicate gn (.int .i64 0)) 3)) w.heap.size ob ((conT b t (legK s G D) gn (List.range 0)).map fun x => .int .i64 x)) := Lib.hid (by
    have h := BlkF.made (B := w.heap.size) (w.alloc (.cells #[.string nm, .int .i64 s, .slice A gn gc, .slice B dn dc] 25)) (List.replicate gn (.int .i64 0)) 3 (by simp)
    rw [show (List.replicate gn (Value.int .i64 0)).toArray = Array.replicate gn (.int .i64 0) by simp] at h
    rw [show (w.alloc (.cells #[.string nm, .int .i64 s, .slice A gn gc, .slice B dn dc] 25)).heap.size = ob by rw [← hob]; simp] at h
    have e : (conT b t (legK s G D) gn (List.range 0)).map (fun x => Value.int .i64 x) = List.replicate gn (.int .i64 0) := by simp [conT]
    rw [e]; exact h)
  have hP0 : Hid (BlkF ((w.alloc (.cells #[.string nm, .int .i64 s, .slice A gn gc, .slice B dn dc] 25)).alloc (.cells (Array.replicate gn (.int .i64 0)) 3)) w.heap.size w.heap.size [.string nm, .int .i64 s, .slice A gn gc, .slice B dn dc]) := Lib.hid ((BlkF.made (B := w.heap.size) w [.string nm, .int .i64 s, .slice A gn gc, .slice B dn dc] 25 (Nat.le_refl _)).below ((Below.refl _ _).alloc (Nat.le_refl _) _))
  have hB0 := Lib.hid (show Below w.heap.size w ((w.alloc (.cells #[.string nm, .int .i64 s, .slice A gn gc, .slice B dn dc] 25)).alloc (.cells (Array.replicate gn (.int .i64 0)) 3)) from ((Below.refl _ _).alloc (Nat.le_refl _) _).alloc (by simp) _)
  have hZ0 : Hid (min (secT D 0) t = 0) := Lib.hid (by rw [show secT D 0 = 0 from rfl]; omega)
  go_enter Tryz.func62, Tryz.ntmps62
  go_wp2_with fail
  go_loopw [8, 9] (fun f i wr => ∃ (k : Nat) (z : Int), k ≤ dn ∧ i = .int .i64 k ∧ f = .int .i64 z ∧ Hid (min (secT D k) t = z) ∧ Hid (BlkF wr w.heap.size w.heap.size [.string nm, .int .i64 s, .slice A gn gc, .slice B dn dc]) ∧ Hid (BlkF wr w.heap.size ob ((conT b t (legK s G D) gn (List.range k)).map fun x => .int .i64 x)) ∧ Below w.heap.size w wr) (fun _ i _ => dn - (intOf i).toNat)
  case atStart => exact ⟨0, 0, by omega, rfl, rfl, hZ0, hP0, hO0, hB0.out⟩
  case round =>
    clear hP0 hO0 hB0 hmk hZ0
    obtain ⟨k, z, hk, rfl, rfl, hzz, hP, hO, hB⟩ := hrel
    have zb := hB.size
    by_cases hkn : k < dn ∧ z < t
    · obtain ⟨hkn, hzt⟩ := hkn
      have kn : (k : Int) < (dn : Int) := by omega
      have k0 : ¬ (k : Int) < 0 := by omega
      have hkD : k < D.length := by have := hdn.out; omega
      obtain ⟨gk, hgk0, hgkl⟩ := legC_g hok.out k
      rw [legC_is hkD] at hgk0
      have hgkD : D[k].g = gk := by rw [← hgk0]; show D[k].g = (D.getD k default).g; rw [getD_leE hkD]
      have hbs : (legK s G D k).bs = z := by have := hzz.out; show secT D k = z; omega
      have hsk := leg_short (s := s) hok.out hS9 k
      rw [legC_is hkD] at hsk
      have hss := (legK_ok hok.out hkD).s
      have hsD : (legK s G D k).s = D[k].s := by show (D.getD k default).s = _; rw [getD_leE]
      obtain ⟨lb, lo, rfl, hll0, hDR⟩ := hD.out.at' hkD
      obtain ⟨f0, _, f2⟩ := le_at hDR hkD
      rw [hgkD] at f2
      rw [← hsD] at f0
      obtain ⟨sk, hskk⟩ : ∃ z, Hid ((legK s G D k).s = z) := ⟨_, Lib.hid rfl⟩
      have bz : 0 ≤ z := by have := (hok.out.sec k).1; have := hzz.out; omega
      obtain ⟨d9, hd9⟩ : ∃ y, Hid (t - z = y) := ⟨_, Lib.hid rfl⟩
      have hwd : IntKind.i64.wrap (t - z) = d9 := by rw [IntWalk.i64_in _ (by omega)]; exact hd9.out
      obtain ⟨m9, hm9⟩ : ∃ y, Hid (min (legK s G D k).s d9 = y) := ⟨_, Lib.hid rfl⟩
      have hm0 : 0 ≤ m9 := by have := hm9.out; have := hd9.out; omega
      have hm1 : m9 ≤ (legK s G D k).s := by have := hm9.out; omega
      have hm2 : min sk d9 = m9 := by rw [← hskk.out]; exact hm9.out
      have hm3 : (if d9 < sk then d9 else sk) = m9 := by rw [← hm2]; split <;> omega
      obtain ⟨q9, hq9⟩ : ∃ z, Hid (binV (legK s G D k) b m9 = z) := ⟨_, Lib.hid rfl⟩
      have hbS : binS (legK s G D k) b t = q9 := by unfold binS; rw [if_neg (by omega), hbs, hd9.out, hm9.out]; exact hq9.out
      obtain ⟨z9, hz9⟩ : ∃ y, Hid (z + m9 = y) := ⟨_, Lib.hid rfl⟩
      have hwz : IntKind.i64.wrap (z + m9) = z9 := by rw [IntWalk.i64_in _ (by omega)]; exact hz9.out
      have hZN : Hid (min (secT D (k + 1)) t = z9) := Lib.hid (by
        rw [secT_succ hkD, ← hz9.out]
        have h1 := hm9.out; have h2 := hd9.out; have h3 := hzz.out
        have h4 : secT D k = z := hbs
        omega)
      have hlen := (conT_snocL b t (legC s G D) gn k (List.range k) (by simp)).1
      have hLb := (conT_snocL b t (legC s G D) gn k (List.range k) (by simp)).2 (legC_ok hok.out) (leg_short hok.out hS9) b0 b1 t0 gk
      rw [conT_range (by omega)] at hLb hlen
      have hbq := binS_bd (t := t) (legK_ok hok.out hkD) b0 b1 hsk t0
      rw [hbS] at hbq
      have hCN0 : conT b t (legK s G D) gn (List.range (k + 1)) = (conT b t (legK s G D) gn (List.range k)).set gk ((conT b t (legK s G D) gn (List.range k)).getD gk 0 + q9) := by
        rw [List.range_succ, conT_snoc]
        unfold ctStep
        rw [hbS, hgk0, Int.toNat_natCast]
      obtain ⟨c9, hc9⟩ : ∃ z, Hid ((conT b t (legK s G D) gn (List.range k)).getD gk 0 = z) := ⟨_, Lib.hid rfl⟩
      rw [hc9.out] at hLb hCN0
      obtain ⟨s9, hs9⟩ : ∃ z, Hid (c9 + q9 = z) := ⟨_, Lib.hid rfl⟩
      rw [hs9.out] at hCN0
      have hCN := Lib.hid hCN0
      have hlen2 : (k : Int) * 124400000000000 ≤ 60 * 124400000000000 := by omega
      have hwS : IntKind.i64.wrap (c9 + q9) = s9 := by rw [IntWalk.i64_in _ (by omega)]; exact hs9.out
      have hgn2 : gk < gn := by have := hgn.out; omega
      have gg0 : ¬ (gk : Int) < 0 := by omega
      have gg1 : (gk : Int) < (gn : Int) := by omega
      have lP := hP.out.lt
      have lO := hO.out.lt
      obtain ⟨c0, c1, c2, c3⟩ := b4 hP.out
      have hc : wr.cell? ⟨ob, gk, none⟩ = some (.int .i64 c9) := by
        have hg : (conT b t (legK s G D) gn (List.range k))[gk]? = some c9 := by rw [← hc9.out, List.getD_eq_getElem?_getD, List.getElem?_eq_getElem (by omega)]; rfl
        exact hO.out.at' gk _ (by rw [List.getElem?_map, hg]; rfl)
      have f0' := (hB.cell (p := ⟨lb, lo + k * 3, none⟩) hll0).trans f0
      rw [hskk.out] at f0'
      have f2' := (hB.cell (p := ⟨lb, lo + k * 3 + 2, none⟩) hll0).trans f2
      have hll : lb < wr.heap.size := by omega
      have HS : Hid (∀ y, Below wr.heap.size wr y → y.cell? ⟨w.heap.size, 0, none⟩ = some (.string nm) ∧ y.cell? ⟨w.heap.size, 1, none⟩ = some (.int .i64 s) ∧ y.cell? ⟨w.heap.size, 2, none⟩ = some (.slice A gn gc) ∧ y.cell? ⟨w.heap.size, 3, none⟩ = some (.slice (some ⟨lb, lo, none⟩) dn dc) ∧ y.cell? ⟨lb, lo + k * 3 + 2, none⟩ = some (.int .i64 (gk : Int)) ∧ y.cell? ⟨ob, gk, none⟩ = some (.int .i64 c9)) := Lib.hid fun y hy => ⟨(hy.cell (p := ⟨w.heap.size, 0, none⟩) lP).trans c0, (hy.cell (p := ⟨w.heap.size, 1, none⟩) lP).trans c1, (hy.cell (p := ⟨w.heap.size, 2, none⟩) lP).trans c2, (hy.cell (p := ⟨w.heap.size, 3, none⟩) lP).trans c3, (hy.cell (p := ⟨lb, lo + k * 3 + 2, none⟩) hll).trans f2', (hy.cell (p := ⟨ob, gk, none⟩) lO).trans hc⟩
      go_upto_region 7 with (fail)
      clear c0 c1 c2 c3 f0 f0' f2 f2' hc hCN0 hgkD hgk0 hDR hLb hbq hbS hlen2 hsD hss
      refine wp_region_Z (S := (fun w' => w'.cell? ⟨w.heap.size, 0, none⟩ = some (.string nm) ∧ w'.cell? ⟨w.heap.size, 1, none⟩ = some (.int .i64 s) ∧ w'.cell? ⟨w.heap.size, 2, none⟩ = some (.slice A gn gc) ∧ w'.cell? ⟨w.heap.size, 3, none⟩ = some (.slice (some ⟨lb, lo, none⟩) dn dc) ∧ w'.cell? ⟨lb, lo + k * 3 + 2, none⟩ = some (.int .i64 (gk : Int)) ∧ w'.cell? ⟨ob, gk, none⟩ = some (.int .i64 c9))) 23 (by kernel_rfl) (by kernel_rfl) (by kernel_rfl) (HS.out _ (Below.refl _ _).drew) (fun hHeld => ?_)
      have hT0 : Below wr.heap.size wr wr.drew := (Below.refl _ _).drew
      generalize hdr : wr.drew = v0 at *
      clear hdr
      refine wpAnyZ_take (i := 0) (oi := ⟨some 37, _, _, _, _, _⟩) (v := ?_) (by kernel_rfl) (by kernel_rfl) rfl rfl (by kernel_rfl) (by kernel_rfl) (by kernel_rfl) (fun _ _ _ h => h) (Or.inl ⟨by kernel_rfl, ?_⟩) (by assumption) ?_
      rotate_left
      · (intro w hSw; (try dsimp only at hSw); go_simp; all_goals with_reducible rfl)
      try simp only [Act.put, sA, sB, sC]
      refine wpAnyZ_take (i := 1) (oi := ⟨some 38, _, _, _, _, _⟩) (v := ?_) (by kernel_rfl) (by kernel_rfl) rfl rfl (by kernel_rfl) (by kernel_rfl) (by kernel_rfl) (fun _ _ _ h => h) (Or.inl ⟨by kernel_rfl, ?_⟩) (by assumption) ?_
      rotate_left
      · (intro w hSw; (try dsimp only at hSw); go_simp; all_goals with_reducible rfl)
      try simp only [Act.put, sA, sB, sC]
      refine wpAnyZ_take (i := 2) (oi := ⟨some 39, _, _, _, _, _⟩) (v := ?_) (by kernel_rfl) (by kernel_rfl) rfl rfl (by kernel_rfl) (by kernel_rfl) (by kernel_rfl) (fun _ _ _ h => h) (Or.inl ⟨by kernel_rfl, ?_⟩) (by assumption) ?_
      rotate_left
      · (intro w hSw; (try dsimp only at hSw); go_simp; all_goals with_reducible rfl)
      try simp only [Act.put, sA, sB, sC]
      refine wpAnyZ_take (i := 3) (oi := ⟨some 40, _, _, _, _, _⟩) (v := ?_) (by kernel_rfl) (by kernel_rfl) rfl rfl (by kernel_rfl) (by kernel_rfl) (by kernel_rfl) (fun _ _ _ h => h) (Or.inl ⟨by kernel_rfl, ?_⟩) (by assumption) ?_
      rotate_left
      · (intro w hSw; (try dsimp only at hSw); go_simp; all_goals with_reducible rfl)
      try simp only [Act.put, sA, sB, sC]
      refine wpAnyZ_take (i := 4) (oi := ⟨some 41, _, _, _, _, _⟩) (v := ?_) (by kernel_rfl) (by kernel_rfl) rfl rfl (by kernel_rfl) (by kernel_rfl) (by kernel_rfl) (fun _ _ _ h => h) (Or.inl ⟨by kernel_rfl, ?_⟩) (by assumption) ?_
      rotate_left
      · (intro w hSw; (try dsimp only at hSw); go_simp; all_goals with_reducible rfl)
      try simp only [Act.put, sA, sB, sC]
      refine wpAnyZ_take (i := 5) (oi := ⟨some 42, _, _, _, _, _⟩) (v := ?_) (by kernel_rfl) (by kernel_rfl) rfl rfl (by kernel_rfl) (by kernel_rfl) (by kernel_rfl) (fun _ _ _ h => h) (Or.inl ⟨by kernel_rfl, ?_⟩) (by assumption) ?_
      rotate_left
      · (intro w hSw; (try dsimp only at hSw); go_simp; all_goals with_reducible rfl)
      try simp only [Act.put, sA, sB, sC]
      refine wpAnyZ_take (i := 6) (oi := ⟨some 43, _, _, _, _, _⟩) (v := ?_) (by kernel_rfl) (by kernel_rfl) rfl rfl (by kernel_rfl) (by kernel_rfl) (by kernel_rfl) (fun _ _ _ h => h) (Or.inl ⟨by kernel_rfl, ?_⟩) (by assumption) ?_
      rotate_left
      · (intro w hSw; (try dsimp only at hSw); go_simp; all_goals with_reducible rfl)
      try simp only [Act.put, sA, sB, sC]
      refine wpAnyZ_take (i := 7) (oi := ⟨some 44, _, _, _, _, _⟩) (v := ?_) (by kernel_rfl) (by kernel_rfl) rfl rfl (by kernel_rfl) (by kernel_rfl) (by kernel_rfl) (fun _ _ _ h => h) (Or.inl ⟨by kernel_rfl, ?_⟩) (by assumption) ?_
      rotate_left
      · (intro w hSw; (try dsimp only at hSw); go_simp; all_goals with_reducible rfl)
      try simp only [Act.put, sA, sB, sC]
      refine wpAnyZ_take (i := 8) (oi := ⟨some 45, _, _, _, _, _⟩) (v := ?_) (by kernel_rfl) (by kernel_rfl) rfl rfl (by kernel_rfl) (by kernel_rfl) (by kernel_rfl) (fun _ _ _ h => h) (Or.inl ⟨by kernel_rfl, ?_⟩) (by assumption) ?_
      rotate_left
      · (intro w hSw; (try dsimp only at hSw); go_simp; all_goals with_reducible rfl)
      try simp only [Act.put, sA, sB, sC]
      refine wpAnyZ_take (i := 9) (oi := ⟨some 46, _, _, _, _, _⟩) (v := ?_) (by kernel_rfl) (by kernel_rfl) rfl rfl (by kernel_rfl) (by kernel_rfl) (by kernel_rfl) (fun _ _ _ h => h) (Or.inl ⟨by kernel_rfl, ?_⟩) (by assumption) ?_
      rotate_left
      · (intro w hSw; (try dsimp only at hSw); go_simp; all_goals with_reducible rfl)
      try simp only [Act.put, sA, sB, sC]
      refine wpAnyZ_take (i := 10) (oi := ⟨some 47, _, _, _, _, _⟩) (v := ?_) (by kernel_rfl) (by kernel_rfl) rfl rfl (by kernel_rfl) (by kernel_rfl) (by kernel_rfl) (fun _ _ _ h => h) (Or.inl ⟨by kernel_rfl, ?_⟩) (by assumption) ?_
      rotate_left
      · (intro w hSw; (try dsimp only at hSw); go_simp; all_goals with_reducible rfl)
      try simp only [Act.put, sA, sB, sC]
      refine wpAnyZ_take (i := 11) (oi := ⟨some 48, _, _, _, _, _⟩) (v := ?_) (by kernel_rfl) (by kernel_rfl) rfl rfl (by kernel_rfl) (by kernel_rfl) (by kernel_rfl) (fun _ _ _ h => h) (Or.inl ⟨by kernel_rfl, ?_⟩) (by assumption) ?_
      rotate_left
      · (intro w hSw; (try dsimp only at hSw); go_simp; all_goals with_reducible rfl)
      try simp only [Act.put, sA, sB, sC]
      refine wpAnyZ_take (i := 12) (oi := ⟨some 49, _, _, _, _, _⟩) (v := ?_) (by kernel_rfl) (by kernel_rfl) rfl rfl (by kernel_rfl) (by kernel_rfl) (by kernel_rfl) (fun _ _ _ h => h) (Or.inl ⟨by kernel_rfl, ?_⟩) (by assumption) ?_
      rotate_left
      · (intro w hSw; (try dsimp only at hSw); go_simp; all_goals with_reducible rfl)
      try simp only [Act.put, sA, sB, sC]
      refine wpAnyZ_take (i := 13) (oi := ⟨some 50, _, _, _, _, _⟩) (v := ?_) (by kernel_rfl) (by kernel_rfl) rfl rfl (by kernel_rfl) (by kernel_rfl) (by kernel_rfl) (fun _ _ _ h => h) (Or.inl ⟨by kernel_rfl, ?_⟩) (by assumption) ?_
      rotate_left
      · (intro w hSw; (try dsimp only at hSw); go_simp; all_goals with_reducible rfl)
      try simp only [Act.put, sA, sB, sC]
      refine wpAnyZ_take (i := 14) (oi := ⟨some 51, _, _, _, _, _⟩) (v := ?_) (by kernel_rfl) (by kernel_rfl) rfl rfl (by kernel_rfl) (by kernel_rfl) (by kernel_rfl) (fun _ _ _ h => h) (Or.inl ⟨by kernel_rfl, ?_⟩) (by assumption) ?_
      rotate_left
      · (intro w hSw; (try dsimp only at hSw); go_simp; all_goals with_reducible rfl)
      try simp only [Act.put, sA, sB, sC]
      refine wpAnyZ_take (i := 15) (oi := ⟨some 52, _, _, _, _, _⟩) (v := ?_) (by kernel_rfl) (by kernel_rfl) rfl rfl (by kernel_rfl) (by kernel_rfl) (by kernel_rfl) (fun _ _ _ h => h) (Or.inl ⟨by kernel_rfl, ?_⟩) (by assumption) ?_
      rotate_left
      · (intro w hSw; (try dsimp only at hSw); go_simp; all_goals with_reducible rfl)
      try simp only [Act.put, sA, sB, sC]
      refine wpAnyZ_take (i := 16) (oi := ⟨some 53, _, _, _, _, _⟩) (v := ?_) (by kernel_rfl) (by kernel_rfl) rfl rfl (by kernel_rfl) (by kernel_rfl) (by kernel_rfl) (fun _ _ _ h => h) (Or.inl ⟨by kernel_rfl, ?_⟩) (by assumption) ?_
      rotate_left
      · (intro w hSw; (try dsimp only at hSw); go_simp; all_goals with_reducible rfl)
      try simp only [Act.put, sA, sB, sC]
      refine wpAnyZ_take (i := 17) (oi := ⟨some 54, _, _, _, _, _⟩) (v := ?_) (by kernel_rfl) (by kernel_rfl) rfl rfl (by kernel_rfl) (by kernel_rfl) (by kernel_rfl) (fun _ _ _ h => h) (Or.inl ⟨by kernel_rfl, ?_⟩) (by assumption) ?_
      rotate_left
      · (intro w hSw; (try dsimp only at hSw); go_simp; all_goals with_reducible rfl)
      try simp only [Act.put, sA, sB, sC]
      refine wpAnyZ_take (i := 18) (oi := ⟨some 55, _, _, _, _, _⟩) (v := ?_) (by kernel_rfl) (by kernel_rfl) rfl rfl (by kernel_rfl) (by kernel_rfl) (by kernel_rfl) (fun _ _ _ h => h) (Or.inl ⟨by kernel_rfl, ?_⟩) (by assumption) ?_
      rotate_left
      · (intro w hSw; (try dsimp only at hSw); go_simp; all_goals with_reducible rfl)
      try simp only [Act.put, sA, sB, sC]
      refine wpAnyZ_take (i := 19) (oi := ⟨some 56, _, _, _, _, _⟩) (v := ?_) (by kernel_rfl) (by kernel_rfl) rfl rfl (by kernel_rfl) (by kernel_rfl) (by kernel_rfl) (fun _ _ _ h => h) (Or.inl ⟨by kernel_rfl, ?_⟩) (by assumption) ?_
      rotate_left
      · (intro w hSw; (try dsimp only at hSw); go_simp; all_goals with_reducible rfl)
      try simp only [Act.put, sA, sB, sC]
      refine wpAnyZ_call (q := 20) (by kernel_rfl) rfl rfl (fun K hK => ?_)
      go_simp
      refine (refPartly_is nm s G D A (some ⟨lb, lo, none⟩) gn gc dn dc k b m9 q9 _ hgn hdn hok (Lib.hid (hG.out.below (hB.trans (hT0.mono hB.size)))) (Lib.hid (hD.out.below (hB.trans (hT0.mono hB.size)))) hkn b0 b1 hm0 hm1 hsk hq9).mono ?_
      rintro e v1 ⟨rfl, hbv0⟩
      have hT1 : Below wr.heap.size wr v1 := hT0.trans (hbv0.mono hT0.size)
      clear hbv0
      go_wp2_with fail
      refine hK.out _ _ (HS.out _ hT1) (fun hHeld => ?_)
      clear hK K
      try simp only [Act.put, sA, sB, sC]
      refine wpAnyZ_take (i := 21) (oi := ⟨some 58, _, _, _, _, _⟩) (v := ?_) (by kernel_rfl) (by kernel_rfl) rfl rfl (by kernel_rfl) (by kernel_rfl) (by kernel_rfl) (fun _ _ _ h => h) (Or.inl ⟨by kernel_rfl, ?_⟩) (by assumption) ?_
      rotate_left
      · (intro w hSw; (try dsimp only at hSw); go_simp; all_goals with_reducible rfl)
      try simp only [Act.put, sA, sB, sC]
      refine wpAnyZ_take (i := 22) (oi := ⟨some 59, _, _, _, _, _⟩) (v := ?_) (by kernel_rfl) (by kernel_rfl) rfl rfl (by kernel_rfl) (by kernel_rfl) (by kernel_rfl) (fun _ _ _ h => h) (Or.inl ⟨by kernel_rfl, ?_⟩) (by assumption) ?_
      rotate_left
      · (intro w hSw; (try dsimp only at hSw); go_simp; all_goals with_reducible rfl)
      try simp only [Act.put, sA, sB, sC]
      have hfz := (hO.out.below hT1).fz
      obtain ⟨_, _, _, _, _, hcl⟩ := hHeld
      refine wpAnyZ_last (by kernel_rfl) rfl (fun K hK => ?_)
      go_simp
      go_wp2_with fail
      refine hK.out _ _ ?_
      clear hK K
      try simp only [Act.put, sA, sB, sC]
      have HPn : Hid (BlkF (v1.setCell ⟨ob, gk, none⟩ (.int .i64 s9)) w.heap.size w.heap.size [.string nm, .int .i64 s, .slice A gn gc, .slice (some ⟨lb, lo, none⟩) dn dc]) := Lib.hid ((hP.out.below hT1).other (c := ob) (i := gk) (l := [.int .i64 s9]) (by omega))
      have HOn : Hid (BlkF (v1.setCell ⟨ob, gk, none⟩ (.int .i64 s9)) w.heap.size ob ((conT b t (legK s G D) gn (List.range (k + 1))).map fun x => .int .i64 x)) := Lib.hid (by
        have h9 := (hO.out.below hT1).put (i := gk) (.int .i64 s9) (by rw [List.length_map]; omega)
        rw [hCN.out, List.map_set]; exact h9)
      have HBn := Lib.hid ((hB.trans (hT1.mono hB.size)).setCell (p := ⟨ob, gk, none⟩) (show w.heap.size ≤ ob by omega) (.int .i64 s9))
      clear HS hP hO hcl hfz
      go_wp2
      go_roundw
      case rel => exact ⟨k + 1, z9, by omega, by go_num, rfl, hZN, HPn, HOn, HBn.out⟩
      case measure => simp [intOf]; omega
    · have hEQ : Hid (conT b t (legK s G D) gn (List.range k) = conT b t (legK s G D) gn (List.range dn)) := Lib.hid (by
        by_cases e : k = dn
        · rw [e]
        · have hz' : t ≤ z := by
            refine Int.not_lt.1 fun h => hkn ⟨by omega, h⟩
          refine (conT_cut hok.out hdn hgn (by omega) ?_).symm
          have := hzz.out
          show t ≤ secT D k
          omega)
      have hout : ∀ (ww : World), ww = wr → (∃ C, Ending.returned (.slice (some ⟨ob, 0, none⟩) gn gn) = .returned (.slice (some ⟨C, 0, none⟩) gn gn) ∧ SlRows inV 1 ww (some ⟨C, 0, none⟩) (conT b t (legK s G D) gn (List.range dn)) ∧ Below w.heap.size w ww) := by
        rintro _ rfl
        refine ⟨ob, rfl, Or.inr ⟨ob, 0, rfl, hO.out.lt, fun j hj i hi => ?_⟩, hB⟩
        obtain rfl : i = 0 := by omega
        have e : 0 + j * 1 + 0 = j := by omega
        rw [e]
        exact hO.out.at' j _ (by rw [hEQ.out, List.getElem?_map, List.getElem?_eq_getElem hj]; rfl)
      have HOUT := Lib.hid hout
      obtain ⟨c0, c1, c2, c3⟩ := b4 hP.out
      clear hout hEQ hO
      by_cases hkd : k < dn
      · have kn : (k : Int) < (dn : Int) := by omega
        have hz9 : ¬ z < t := fun h => hkn ⟨hkd, h⟩
        go_wp2
        go_ret
        exact HOUT.out _ rfl
      · have kn : ¬ (k : Int) < (dn : Int) := by omega
        go_wp2
        go_ret
        exact HOUT.out _ rfl
end Go.Proofs.YtijdphlejokijaaGreat
