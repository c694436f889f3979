/- The ceiling of loads: the specification's ceiling and Ceiling. -/
import Derived.Test.YtchfhhmmjioajaaMKepts
import Derived.Deep.CutRange
import Derived.Deep.CutBlock
import Derived.Outline
namespace Go.Proofs.Ytchfhhmmjioajaa
open Go.ChangeShapes Go.WideShapes Go.ChangeAt Go.RowKit
set_option linter.unusedVariables false
set_option linter.unusedSimpArgs false
attribute [local go_sem ↓] Go.wp_at_zero Go.wp_at_succ
/-- The ceiling of a list of compartments and loads with a factor, beyond two numbers. -/
def ceilR (f : Int) : List Cm → List Ld → Int → Int → Int × Int
  | x :: T, y :: L, lo, hi => ceilR f T L (max lo (lstP (f * 1000 * x.b) (1000000 + f * (x.s - 1000)) (y.a + y.c))) (max hi (lstP (f * 1000 * x.b) (1000000 + f * (x.s - 1000)) (y.b + y.d)))
  | _, _, lo, hi => (lo, hi)
theorem ceilR_drop {f : Int} {T : List Cm} {L : List Ld} {k : Nat} (hk : k < T.length) (hk' : k < L.length) (lo hi : Int) : ceilR f (T.drop k) (L.drop k) lo hi = ceilR f (T.drop (k + 1)) (L.drop (k + 1)) (max lo (lstP (f * 1000 * T[k].b) (1000000 + f * (T[k].s - 1000)) (L[k].a + L[k].c))) (max hi (lstP (f * 1000 * T[k].b) (1000000 + f * (T[k].s - 1000)) (L[k].b + L[k].d))) := by
  rw [List.drop_eq_getElem_cons hk, List.drop_eq_getElem_cons hk', ceilR]
theorem ceilR_end {f : Int} {T : List Cm} {L : List Ld} {k : Nat} (hk : T.length ≤ k) (lo hi : Int) : ceilR f (T.drop k) (L.drop k) lo hi = (lo, hi) := by
  rw [List.drop_eq_nil_of_le hk, ceilR]
  intro x T' y L' h; cases h
theorem lst_bd {B S x : Int} (b0 : 0 ≤ B) (s0 : 1000000 ≤ S) (x0 : 0 ≤ x) (x1 : x ≤ 200000000) : 0 ≤ lstP B S x ∧ lstP B S x ≤ 200001 := by
  unfold lstP
  have h0 : 0 ≤ max 0 (1000 * x - B) := by omega
  have h1 : max 0 (1000 * x - B) ≤ 200000000000 := by omega
  generalize max 0 (1000 * x - B) = m at h0 h1
  constructor
  · exact Int.ediv_nonneg (by omega) (by omega)
  · refine Int.le_of_lt_add_one ((Int.ediv_lt_iff_lt_mul (by omega)).2 ?_)
    have : (200001 + 1) * 1000000 ≤ (200001 + 1) * S := Int.mul_le_mul_of_nonneg_left s0 (by omega)
    omega
theorem baseCeil_neg (m d : Int) (w : World) (h0 : 0 ≤ m) (h1 : m ≤ 1000000000000000000) (h2 : 0 < d) (h3 : d ≤ 1000000000000000000) :
    Calls Try.prog 106 #[.int .i64 (-m), .int .i64 d] w fun e w' => e = .returned (.int .i64 (-(m / d))) ∧ w = w' := by
  have b1 : 0 ≤ m / d := Int.ediv_nonneg h0 (by omega)
  have b2 : m / d ≤ m := Int.ediv_le_self _ h0
  have hF := Lib.hid fun w => baseFloor_nn m d w h0 h1 h2 h3
  obtain ⟨c, hc⟩ : ∃ c, Hid (m / d = c) := ⟨_, Lib.hid rfl⟩
  rw [hc.out] at b1 b2 ⊢
  have hF2 := Lib.hid fun w => (by have := hF.out w; rw [hc.out] at this; exact this : Calls Try.prog 105 #[.int .i64 m, .int .i64 d] w fun e w' => e = .returned (.int .i64 c) ∧ w = w')
  have e1 : IntKind.i64.wrap (- -m) = m := by rw [Int.neg_neg]; exact IntWalk.i64_in _ (by omega)
  go_enter Try.func106, Try.ntmps106
  go_wp2_with ((go_at_call 105; ((with_reducible refine (hF2.out _).mono ?_)); rintro e w' ⟨rfl, rfl⟩))
  go_ret
  exact ⟨ret_int (by first | rfl | simp), rfl⟩
theorem refceil_is (n hz b s x f B S r : Int) (w : World) (f0 : 0 ≤ f) (f1 : f ≤ 1000) (b0 : 0 ≤ b) (b1 : b ≤ 10000) (s0 : 1000 ≤ s) (s1 : s ≤ 10000) (x0 : 0 ≤ x) (x1 : x ≤ 200000000) (hB : Hid (f * 1000 * b = B)) (hS : Hid (1000000 + f * (s - 1000) = S)) (hr : Hid (lstP B S x = r)) :
    Calls Try.prog 109 #[.agg #[.int .i64 n, .int .i64 hz, .int .i64 b, .int .i64 s], .int .i64 x, .int .i64 f] w fun e w' => e = .returned (.int .i64 r) ∧ Below w.heap.size w w' := by
  have bb := base_bd f0 f1 b0 b1
  have ss := slope_bd f0 f1 s0 s1
  rw [hB.out] at bb
  rw [hS.out] at ss
  obtain ⟨Q, hQ⟩ : ∃ z, Hid (f * (s - 1000) = z) := ⟨_, Lib.hid rfl⟩
  have hq : 0 ≤ Q ∧ Q ≤ 9000000 := by
    rw [← hQ.out]
    exact ⟨Int.mul_nonneg f0 (by omega), Int.le_trans (Int.mul_le_mul f1 (show s - 1000 ≤ 9000 by omega) (by omega) (by omega)) (by omega)⟩
  have e1 : 1000 * f * b = B := by rw [← hB.out, Int.mul_comm 1000 f]
  have e2 : IntKind.i64.wrap (1000 * f * b) = B := by rw [e1]; exact IntWalk.i64_in _ (by omega)
  have e3 : f * (s - 1000) = Q := hQ.out
  have e4 : IntKind.i64.wrap (f * (s - 1000)) = Q := by rw [e3]; exact IntWalk.i64_in _ (by omega)
  have e5 : IntKind.i64.wrap B = B := IntWalk.i64_in _ (by omega)
  have e6 : IntKind.i64.wrap Q = Q := IntWalk.i64_in _ (by omega)
  have hS2 : S = 1000000 + Q := by rw [← hS.out, e3]
  have e7 : IntKind.i64.wrap (1000 * x - B) = 1000 * x - B := IntWalk.i64_in _ (by omega)
  have lb := lst_bd bb.1 ss.1 x0 x1
  by_cases hn : 0 ≤ 1000 * x - B
  · have HC : Hid (∀ w, Calls Try.prog 106 #[.int .i64 (1000 * x - B), .int .i64 (1000000 + Q)] w fun e w' => e = .returned (.int .i64 r) ∧ w = w') := fun w => by
      have := baseCeil_nn (1000 * x - B) S w hn (by omega) (by omega) (by omega)
      rw [show (1000 * x - B + S - 1) / S = r by rw [← hr.out, lstP, show max 0 (1000 * x - B) = 1000 * x - B by omega], hS2] at this
      exact this
    have hr0 : 0 ≤ r := by rw [← hr.out]; exact lb.1
    have hm : max 0 r = r := by omega
    clear hB hS hr hQ lb
    subst hS2
    go_enter Try.func109, Try.ntmps109
    go_wp2_with ((go_at_call 106; ((with_reducible refine (HC.out _).mono ?_)); rintro e w' ⟨rfl, rfl⟩))
    all_goals (go_ret; exact ⟨ret_int (by first | rfl | omega), (by (repeat (first | (with_reducible refine Below.drew ?_) | (with_reducible refine below_drewN ?_ _) | (with_reducible refine Below.alloc ?_ (by first | omega | (simp; done) | (simp; omega) | (simp at *; omega)) _) | (with_reducible refine Below.setCell ?_ (by first | omega | (simp; done) | (simp; omega) | (simp at *; omega)) _) | (with_reducible exact Below.refl _ _) | (with_reducible assumption) | (with_reducible refine Below.trans ?_ (Below.mono (by assumption) (by first | omega | (simp; done) | (simp; omega) | (simp at *; omega)))))))⟩)
  · obtain ⟨m, hm⟩ : ∃ z, Hid (B - 1000 * x = z) := ⟨_, Lib.hid rfl⟩
    have hm0 : 0 < m := by rw [← hm.out]; omega
    have hm1 : m ≤ 10000000000 := by rw [← hm.out]; omega
    have e8 : 1000 * x - B = -m := by rw [← hm.out]; omega
    obtain ⟨c, hc⟩ : ∃ z, Hid (m / (1000000 + Q) = z) := ⟨_, Lib.hid rfl⟩
    have c0 : 0 ≤ c := by rw [← hc.out]; exact Int.ediv_nonneg (by omega) (by omega)
    have c1 : c ≤ m := by rw [← hc.out]; exact Int.ediv_le_self _ (by omega)
    have HC : Hid (∀ w, Calls Try.prog 106 #[.int .i64 (-m), .int .i64 (1000000 + Q)] w fun e w' => e = .returned (.int .i64 (-c)) ∧ w = w') := fun w => by
      have := baseCeil_neg m (1000000 + Q) w (by omega) (by omega) (by omega) (by omega)
      rw [hc.out] at this
      exact this
    have hv : Hid (r = 0) := by
      show _ = _
      rw [← hr.out, lstP, show max 0 (1000 * x - B) = 0 by omega]
      exact Int.ediv_eq_zero_of_lt (by omega) (by omega)
    have hm9 : max 0 (-c) = 0 := by omega
    rw [e8] at e7
    clear hB hS hr hQ lb hm hc hn
    subst hS2
    go_enter Try.func109, Try.ntmps109
    go_wp2_with ((go_at_call 106; ((with_reducible refine (HC.out _).mono ?_)); rintro e w' ⟨rfl, rfl⟩))
    have hv2 := hv.out
    all_goals (go_ret; exact ⟨ret_int (by first | rfl | omega), (by (repeat (first | (with_reducible refine Below.drew ?_) | (with_reducible refine below_drewN ?_ _) | (with_reducible refine Below.alloc ?_ (by first | omega | (simp; done) | (simp; omega) | (simp at *; omega)) _) | (with_reducible refine Below.setCell ?_ (by first | omega | (simp; done) | (simp; omega) | (simp at *; omega)) _) | (with_reducible exact Below.refl _ _) | (with_reducible assumption) | (with_reducible refine Below.trans ?_ (Below.mono (by assumption) (by first | omega | (simp; done) | (simp; omega) | (simp at *; omega)))))))⟩)
set_option maxRecDepth 100000 in
set_option maxHeartbeats 4000000 in
theorem refCeiling_is (T : List Cm) (L : List Ld) (A B : Option Addr) (cap cap' : Nat) (f EL EH : Int) (w : World) (HFit : Hid (Fit T L)) (f0 : 0 ≤ f) (f1 : f ≤ 1000) (hE : Hid (ceilR f T L 0 0 = (EL, EH))) (HT : Hid (SlCm w A T)) (HL : Hid (SlLd w B L)) :
    Calls Try.prog 53 #[.slice A T.length cap, .slice B L.length cap', .int .i64 f] w fun e w' => e = .returned (.agg #[.int .i64 EL, .int .i64 EH]) ∧ Below w.heap.size w w' := by
  have hlen : T.length ≤ L.length := by rw [HFit.out.len]; exact Nat.le_refl _
  have hmost := HFit.out.most
  go_enter Try.func53, Try.ntmps53
  go_wp2
  go_loopw [8] (fun i wr => ∃ (k : Nat) (lo hi : Int), k ≤ T.length ∧ i = .int .i64 k ∧ Hid (ceilR f (T.drop k) (L.drop k) lo hi = (EL, EH)) ∧ wr.cell? ⟨w.heap.size + 1, 0, none⟩ = some (.int .i64 lo) ∧ wr.cell? ⟨w.heap.size + 1, 1, none⟩ = some (.int .i64 hi) ∧ (∀ j, wr.frozen? ⟨w.heap.size + 1, j, none⟩ = false) ∧ wr.cell? ⟨w.heap.size, 0, none⟩ = some (.int .i64 0) ∧ wr.cell? ⟨w.heap.size, 1, none⟩ = some (.int .i64 0) ∧ (∀ j, wr.frozen? ⟨w.heap.size, j, none⟩ = false) ∧ w.heap.size + 2 ≤ wr.heap.size ∧ Below w.heap.size w wr) (fun i _ => T.length - (intOf i).toNat)
  case atStart => exact ⟨0, 0, 0, by omega, rfl, hE, by simp [go_sem, World.cell?_alloc_past], by simp [go_sem, World.cell?_alloc_past], by intro j; simp [go_sem], by simp [go_sem, World.cell?_alloc_past], by simp [go_sem, World.cell?_alloc_past], by intro j; simp [go_sem], by simp, (by (repeat (first | (with_reducible refine Below.drew ?_) | (with_reducible refine below_drewN ?_ _) | (with_reducible refine Below.alloc ?_ (by first | omega | (simp; done) | (simp; omega) | (simp at *; omega)) _) | (with_reducible refine Below.setCell ?_ (by first | omega | (simp; done) | (simp; omega) | (simp at *; omega)) _) | (with_reducible exact Below.refl _ _) | (with_reducible assumption) | (with_reducible refine Below.trans ?_ (Below.mono (by assumption) (by first | omega | (simp; done) | (simp; omega) | (simp at *; omega)))))))⟩
  case round =>
    clear hE
    obtain ⟨k, lo, hi, hk, rfl, hx, z0, z1, zf, r0, r1, rf, sz, hB⟩ := hrel
    have m1 : w.heap.size + 1 < wr.heap.size := by omega
    have m2 : wr.heap.size ≠ w.heap.size + 1 := by omega
    have m3 : w.heap.size < wr.heap.size := by omega
    have m4 : wr.heap.size ≠ w.heap.size := by omega
    by_cases hkl : k < T.length
    · have hkl2 : (k : Int) < T.length := by omega
      have hkl' : k < L.length := by omega
      have hkl3 : (k : Int) < L.length := by omega
      rcases (HT.out.below hB : SlCm wr A T) with hnil | ⟨pb, po, hAA, plt, PT⟩
      · rw [hnil] at hkl; simp at hkl
      rcases (HL.out.below hB : SlLd wr B L) with hnil | ⟨lb, lo', hBB, llt, PL⟩
      · rw [hnil] at hkl'; simp at hkl'
      have hpw : Hid (pb < w.heap.size ∧ lb < w.heap.size) := by
        constructor
        · rcases HT.out with h9 | ⟨b9, o9, h9, l9, _⟩
          · rw [h9] at hkl; simp at hkl
          · rw [hAA] at h9; cases h9; exact l9
        · rcases HL.out with h9 | ⟨b9, o9, h9, l9, _⟩
          · rw [h9] at hkl'; simp at hkl'
          · rw [hBB] at h9; cases h9; exact l9
      subst hAA hBB
      have np : pb ≠ w.heap.size + 1 := by have := hpw.out; omega
      have nl : lb ≠ w.heap.size + 1 := by have := hpw.out; omega
      obtain ⟨c0, c1, c2, c3⟩ := PT k hkl
      obtain ⟨d0, d1, d2, d3⟩ := PL k hkl'
      obtain ⟨q1, q2, q3, q4⟩ := cmp_ok (HFit.out.cm k hkl)
      obtain ⟨q5, q6⟩ := lodE_ok (HFit.out.ld k hkl')
      have hst := ceilR_drop (f := f) hkl hkl' lo hi
      rw [hx.out] at hst
      obtain ⟨n, hn⟩ : ∃ z, Hid (T[k].n = z) := ⟨T[k].n, Lib.hid rfl⟩
      obtain ⟨hz, hh⟩ : ∃ z, Hid (T[k].h = z) := ⟨T[k].h, Lib.hid rfl⟩
      obtain ⟨b, hb⟩ : ∃ z, Hid (T[k].b = z) := ⟨T[k].b, Lib.hid rfl⟩
      obtain ⟨s, hs⟩ : ∃ z, Hid (T[k].s = z) := ⟨T[k].s, Lib.hid rfl⟩
      obtain ⟨la, hla⟩ : ∃ z, Hid (L[k].a = z) := ⟨L[k].a, Lib.hid rfl⟩
      obtain ⟨lb', hlb⟩ : ∃ z, Hid (L[k].b = z) := ⟨L[k].b, Lib.hid rfl⟩
      obtain ⟨lc, hlc⟩ : ∃ z, Hid (L[k].c = z) := ⟨L[k].c, Lib.hid rfl⟩
      obtain ⟨ld', hld⟩ : ∃ z, Hid (L[k].d = z) := ⟨L[k].d, Lib.hid rfl⟩
      rw [hn.out] at c0
      rw [hh.out] at c1
      rw [hb.out] at c2 q3 hst
      rw [hs.out] at c3 q4 hst
      rw [hla.out] at d0 q5 hst
      rw [hlb.out] at d1 q5 hst
      rw [hlc.out] at d2 q6 hst
      rw [hld.out] at d3 q6 hst
      obtain ⟨P, hP⟩ : ∃ z, Hid (f * 1000 * b = z) := ⟨_, Lib.hid rfl⟩
      obtain ⟨Q, hQ⟩ : ∃ z, Hid (1000000 + f * (s - 1000) = z) := ⟨_, Lib.hid rfl⟩
      rw [hP.out, hQ.out] at hst
      obtain ⟨M0, hM0⟩ : ∃ z, Hid (lstP P Q (la + lc) = z) := ⟨_, Lib.hid rfl⟩
      obtain ⟨M1, hM1⟩ : ∃ z, Hid (lstP P Q (lb' + ld') = z) := ⟨_, Lib.hid rfl⟩
      rw [hM0.out, hM1.out] at hst
      have HST := Lib.hid hst
      have x1 : IntKind.i64.wrap (la + lc) = la + lc := IntWalk.i64_in _ (by omega)
      have x3 : IntKind.i64.wrap (lb' + ld') = lb' + ld' := IntWalk.i64_in _ (by omega)
      have HC0 := Lib.hid (fun w => refceil_is n hz b s (la + lc) f P Q M0 w f0 f1 q3.1 q3.2 q4.1 q4.2 (by omega) (by omega) hP hQ hM0)
      have HC1 := Lib.hid (fun w => refceil_is n hz b s (lb' + ld') f P Q M1 w f0 f1 q3.1 q3.2 q4.1 q4.2 (by omega) (by omega) hP hQ hM1)
      clear hst hx PT PL hn hh hb hs hla hlb hlc hld hP hQ hM0 hM1 q1 q2 q3 q4 q5 q6
      have z2 := r0
      have z3 := r1
      have z4 := c0
      have z5 := c1
      have z6 := c2
      have z7 := c3
      have z8 := d0
      have z9 := d1
      have z10 := d2
      have z11 := d3
      have zg := rf
      have zB := hB
      clear r0 r1 rf c0 c1 c2 c3 d0 d1 d2 d3 hB
      go_upto_region 5 with (fail)
      go_cut [] from 9 to 60 (fun wx => wx.cell? ⟨w.heap.size + 1, 0, none⟩ = some (.int .i64 (max lo M0)) ∧ wx.cell? ⟨w.heap.size + 1, 1, none⟩ = some (.int .i64 hi) ∧ wx.cell? ⟨w.heap.size, 0, none⟩ = some (.int .i64 0) ∧ wx.cell? ⟨w.heap.size, 1, none⟩ = some (.int .i64 0) ∧ wx.cell? ⟨pb, po + k * 4, none⟩ = some (.int .i64 n) ∧ wx.cell? ⟨pb, po + k * 4 + 1, none⟩ = some (.int .i64 hz) ∧ wx.cell? ⟨pb, po + k * 4 + 2, none⟩ = some (.int .i64 b) ∧ wx.cell? ⟨pb, po + k * 4 + 3, none⟩ = some (.int .i64 s) ∧ wx.cell? ⟨lb, lo' + k * 4, none⟩ = some (.int .i64 la) ∧ wx.cell? ⟨lb, lo' + k * 4 + 1, none⟩ = some (.int .i64 lb') ∧ wx.cell? ⟨lb, lo' + k * 4 + 2, none⟩ = some (.int .i64 lc) ∧ wx.cell? ⟨lb, lo' + k * 4 + 3, none⟩ = some (.int .i64 ld') ∧ (∀ j, wx.frozen? ⟨w.heap.size + 1, j, none⟩ = false) ∧ (∀ j, wx.frozen? ⟨w.heap.size, j, none⟩ = false) ∧ w.heap.size + 1 < wx.heap.size ∧ pb < wx.heap.size ∧ lb < wx.heap.size ∧ Below w.heap.size w wx)
      case first =>
        by_cases hlt : lo < M0
        · have hmx : max lo M0 = M0 := by omega
          refine wp_region_Z (S := (fun w' => w'.cell? ⟨w.heap.size + 1, 0, none⟩ = some (.int .i64 lo) ∧ w'.cell? ⟨pb, po + k * 4, none⟩ = some (.int .i64 n) ∧ w'.cell? ⟨pb, po + k * 4 + 1, none⟩ = some (.int .i64 hz) ∧ w'.cell? ⟨pb, po + k * 4 + 2, none⟩ = some (.int .i64 b) ∧ w'.cell? ⟨pb, po + k * 4 + 3, none⟩ = some (.int .i64 s) ∧ w'.cell? ⟨lb, lo' + k * 4, none⟩ = some (.int .i64 la) ∧ w'.cell? ⟨lb, lo' + k * 4 + 2, none⟩ = some (.int .i64 lc))) 23 (by kernel_rfl) (by kernel_rfl) (by kernel_rfl) (by simp [go_sem, World.cell?_alloc_past, *]) (fun hHeld => ?_)
          refine wpAnyZ_take (i := 0) (oi := ⟨some 15, _, _, _, _, _⟩) (v := ?_) (by kernel_rfl) (by kernel_rfl) rfl rfl (by kernel_rfl) (by kernel_rfl) (by kernel_rfl) (fun _ _ _ h => h) (Or.inl ⟨by kernel_rfl, ?_⟩) (by assumption) ?_
          rotate_left
          · (intro w hSw; (try dsimp only at hSw); go_simp; all_goals with_reducible rfl)
          try simp only [Act.put, List.setIfInBounds_toArray, List.set_cons_zero, List.set_cons_succ]
          refine wpAnyZ_take (i := 1) (oi := ⟨some 16, _, _, _, _, _⟩) (v := ?_) (by kernel_rfl) (by kernel_rfl) rfl rfl (by kernel_rfl) (by kernel_rfl) (by kernel_rfl) (fun _ _ _ h => h) (Or.inl ⟨by kernel_rfl, ?_⟩) (by assumption) ?_
          rotate_left
          · (intro w hSw; (try dsimp only at hSw); go_simp; all_goals with_reducible rfl)
          try simp only [Act.put, List.setIfInBounds_toArray, List.set_cons_zero, List.set_cons_succ]
          refine wpAnyZ_take (i := 2) (oi := ⟨some 17, _, _, _, _, _⟩) (v := ?_) (by kernel_rfl) (by kernel_rfl) rfl rfl (by kernel_rfl) (by kernel_rfl) (by kernel_rfl) (fun _ _ _ h => h) (Or.inl ⟨by kernel_rfl, ?_⟩) (by assumption) ?_
          rotate_left
          · (intro w hSw; (try dsimp only at hSw); go_simp; all_goals with_reducible rfl)
          try simp only [Act.put, List.setIfInBounds_toArray, List.set_cons_zero, List.set_cons_succ]
          refine wpAnyZ_take (i := 3) (oi := ⟨some 18, _, _, _, _, _⟩) (v := ?_) (by kernel_rfl) (by kernel_rfl) rfl rfl (by kernel_rfl) (by kernel_rfl) (by kernel_rfl) (fun _ _ _ h => h) (Or.inl ⟨by kernel_rfl, ?_⟩) (by assumption) ?_
          rotate_left
          · (intro w hSw; (try dsimp only at hSw); go_simp; all_goals with_reducible rfl)
          try simp only [Act.put, List.setIfInBounds_toArray, List.set_cons_zero, List.set_cons_succ]
          refine wpAnyZ_take (i := 4) (oi := ⟨some 19, _, _, _, _, _⟩) (v := ?_) (by kernel_rfl) (by kernel_rfl) rfl rfl (by kernel_rfl) (by kernel_rfl) (by kernel_rfl) (fun _ _ _ h => h) (Or.inl ⟨by kernel_rfl, ?_⟩) (by assumption) ?_
          rotate_left
          · (intro w hSw; (try dsimp only at hSw); go_simp; all_goals with_reducible rfl)
          try simp only [Act.put, List.setIfInBounds_toArray, List.set_cons_zero, List.set_cons_succ]
          refine wpAnyZ_take (i := 5) (oi := ⟨some 20, _, _, _, _, _⟩) (v := ?_) (by kernel_rfl) (by kernel_rfl) rfl rfl (by kernel_rfl) (by kernel_rfl) (by kernel_rfl) (fun _ _ _ h => h) (Or.inl ⟨by kernel_rfl, ?_⟩) (by assumption) ?_
          rotate_left
          · (intro w hSw; (try dsimp only at hSw); go_simp; all_goals with_reducible rfl)
          try simp only [Act.put, List.setIfInBounds_toArray, List.set_cons_zero, List.set_cons_succ]
          refine wpAnyZ_take (i := 6) (oi := ⟨some 21, _, _, _, _, _⟩) (v := ?_) (by kernel_rfl) (by kernel_rfl) rfl rfl (by kernel_rfl) (by kernel_rfl) (by kernel_rfl) (fun _ _ _ h => h) (Or.inl ⟨by kernel_rfl, ?_⟩) (by assumption) ?_
          rotate_left
          · (intro w hSw; (try dsimp only at hSw); go_simp; all_goals with_reducible rfl)
          try simp only [Act.put, List.setIfInBounds_toArray, List.set_cons_zero, List.set_cons_succ]
          refine wpAnyZ_take (i := 7) (oi := ⟨some 22, _, _, _, _, _⟩) (v := ?_) (by kernel_rfl) (by kernel_rfl) rfl rfl (by kernel_rfl) (by kernel_rfl) (by kernel_rfl) (fun _ _ _ h => h) (Or.inl ⟨by kernel_rfl, ?_⟩) (by assumption) ?_
          rotate_left
          · (intro w hSw; (try dsimp only at hSw); go_simp; all_goals with_reducible rfl)
          try simp only [Act.put, List.setIfInBounds_toArray, List.set_cons_zero, List.set_cons_succ]
          refine wpAnyZ_take (i := 8) (oi := ⟨some 23, _, _, _, _, _⟩) (v := ?_) (by kernel_rfl) (by kernel_rfl) rfl rfl (by kernel_rfl) (by kernel_rfl) (by kernel_rfl) (fun _ _ _ h => h) (Or.inl ⟨by kernel_rfl, ?_⟩) (by assumption) ?_
          rotate_left
          · (intro w hSw; (try dsimp only at hSw); go_simp; all_goals with_reducible rfl)
          try simp only [Act.put, List.setIfInBounds_toArray, List.set_cons_zero, List.set_cons_succ]
          refine wpAnyZ_take (i := 9) (oi := ⟨some 24, _, _, _, _, _⟩) (v := ?_) (by kernel_rfl) (by kernel_rfl) rfl rfl (by kernel_rfl) (by kernel_rfl) (by kernel_rfl) (fun _ _ _ h => h) (Or.inl ⟨by kernel_rfl, ?_⟩) (by assumption) ?_
          rotate_left
          · (intro w hSw; (try dsimp only at hSw); go_simp; all_goals with_reducible rfl)
          try simp only [Act.put, List.setIfInBounds_toArray, List.set_cons_zero, List.set_cons_succ]
          refine wpAnyZ_take (i := 10) (oi := ⟨some 25, _, _, _, _, _⟩) (v := ?_) (by kernel_rfl) (by kernel_rfl) rfl rfl (by kernel_rfl) (by kernel_rfl) (by kernel_rfl) (fun _ _ _ h => h) (Or.inl ⟨by kernel_rfl, ?_⟩) (by assumption) ?_
          rotate_left
          · (intro w hSw; (try dsimp only at hSw); go_simp; all_goals with_reducible rfl)
          try simp only [Act.put, List.setIfInBounds_toArray, List.set_cons_zero, List.set_cons_succ]
          refine wpAnyZ_take (i := 11) (oi := ⟨some 26, _, _, _, _, _⟩) (v := ?_) (by kernel_rfl) (by kernel_rfl) rfl rfl (by kernel_rfl) (by kernel_rfl) (by kernel_rfl) (fun _ _ _ h => h) (Or.inl ⟨by kernel_rfl, ?_⟩) (by assumption) ?_
          rotate_left
          · (intro w hSw; (try dsimp only at hSw); go_simp; all_goals with_reducible rfl)
          try simp only [Act.put, List.setIfInBounds_toArray, List.set_cons_zero, List.set_cons_succ]
          refine wpAnyZ_take (i := 12) (oi := ⟨some 27, _, _, _, _, _⟩) (v := ?_) (by kernel_rfl) (by kernel_rfl) rfl rfl (by kernel_rfl) (by kernel_rfl) (by kernel_rfl) (fun _ _ _ h => h) (Or.inl ⟨by kernel_rfl, ?_⟩) (by assumption) ?_
          rotate_left
          · (intro w hSw; (try dsimp only at hSw); go_simp; all_goals with_reducible rfl)
          try simp only [Act.put, List.setIfInBounds_toArray, List.set_cons_zero, List.set_cons_succ]
          refine wpAnyZ_take (i := 13) (oi := ⟨some 28, _, _, _, _, _⟩) (v := ?_) (by kernel_rfl) (by kernel_rfl) rfl rfl (by kernel_rfl) (by kernel_rfl) (by kernel_rfl) (fun _ _ _ h => h) (Or.inl ⟨by kernel_rfl, ?_⟩) (by assumption) ?_
          rotate_left
          · (intro w hSw; (try dsimp only at hSw); go_simp; all_goals with_reducible rfl)
          try simp only [Act.put, List.setIfInBounds_toArray, List.set_cons_zero, List.set_cons_succ]
          refine wpAnyZ_take (i := 14) (oi := ⟨some 29, _, _, _, _, _⟩) (v := ?_) (by kernel_rfl) (by kernel_rfl) rfl rfl (by kernel_rfl) (by kernel_rfl) (by kernel_rfl) (fun _ _ _ h => h) (Or.inl ⟨by kernel_rfl, ?_⟩) (by assumption) ?_
          rotate_left
          · (intro w hSw; (try dsimp only at hSw); go_simp; all_goals with_reducible rfl)
          try simp only [Act.put, List.setIfInBounds_toArray, List.set_cons_zero, List.set_cons_succ]
          refine wpAnyZ_take (i := 15) (oi := ⟨some 30, _, _, _, _, _⟩) (v := ?_) (by kernel_rfl) (by kernel_rfl) rfl rfl (by kernel_rfl) (by kernel_rfl) (by kernel_rfl) (fun _ _ _ h => h) (Or.inl ⟨by kernel_rfl, ?_⟩) (by assumption) ?_
          rotate_left
          · (intro w hSw; (try dsimp only at hSw); go_simp; all_goals with_reducible rfl)
          try simp only [Act.put, List.setIfInBounds_toArray, List.set_cons_zero, List.set_cons_succ]
          refine wpAnyZ_take (i := 16) (oi := ⟨some 31, _, _, _, _, _⟩) (v := ?_) (by kernel_rfl) (by kernel_rfl) rfl rfl (by kernel_rfl) (by kernel_rfl) (by kernel_rfl) (fun _ _ _ h => h) (Or.inl ⟨by kernel_rfl, ?_⟩) (by assumption) ?_
          rotate_left
          · (intro w hSw; (try dsimp only at hSw); go_simp; all_goals with_reducible rfl)
          try simp only [Act.put, List.setIfInBounds_toArray, List.set_cons_zero, List.set_cons_succ]
          refine wpAnyZ_take (i := 17) (oi := ⟨some 32, _, _, _, _, _⟩) (v := ?_) (by kernel_rfl) (by kernel_rfl) rfl rfl (by kernel_rfl) (by kernel_rfl) (by kernel_rfl) (fun _ _ _ h => h) (Or.inl ⟨by kernel_rfl, ?_⟩) (by assumption) ?_
          rotate_left
          · (intro w hSw; (try dsimp only at hSw); go_simp; all_goals with_reducible rfl)
          try simp only [Act.put, List.setIfInBounds_toArray, List.set_cons_zero, List.set_cons_succ]
          refine wpAnyZ_take (i := 18) (oi := ⟨some 33, _, _, _, _, _⟩) (v := ?_) (by kernel_rfl) (by kernel_rfl) rfl rfl (by kernel_rfl) (by kernel_rfl) (by kernel_rfl) (fun _ _ _ h => h) (Or.inl ⟨by kernel_rfl, ?_⟩) (by assumption) ?_
          rotate_left
          · (intro w hSw; (try dsimp only at hSw); go_simp; all_goals with_reducible rfl)
          try simp only [Act.put, List.setIfInBounds_toArray, List.set_cons_zero, List.set_cons_succ]
          refine wpAnyZ_take (i := 19) (oi := ⟨some 34, _, _, _, _, _⟩) (v := ?_) (by kernel_rfl) (by kernel_rfl) rfl rfl (by kernel_rfl) (by kernel_rfl) (by kernel_rfl) (fun _ _ _ h => h) (Or.inl ⟨by kernel_rfl, ?_⟩) (by assumption) ?_
          rotate_left
          · (intro w hSw; (try dsimp only at hSw); go_simp; all_goals with_reducible rfl)
          try simp only [Act.put, List.setIfInBounds_toArray, List.set_cons_zero, List.set_cons_succ]
          refine wpAnyZ_call (q := 20) (by kernel_rfl) rfl rfl (fun K hK => ?_)
          go_simp
          refine (HC0.out _).mono ?_
          rintro e v1 ⟨rfl, hb1⟩
          have zs1 := hb1.size
          try simp at zs1
          have y0 : v1.cell? ⟨w.heap.size + 1, 0, none⟩ = some (.int .i64 lo) := by rw [(bcell hb1).1 _ _ (by first | (simp; done) | (simp; omega) | omega)]; simp [go_sem, World.cell?_alloc_past, *]
          have y1 : v1.cell? ⟨w.heap.size + 1, 1, none⟩ = some (.int .i64 hi) := by rw [(bcell hb1).1 _ _ (by first | (simp; done) | (simp; omega) | omega)]; simp [go_sem, World.cell?_alloc_past, *]
          have y2 : v1.cell? ⟨w.heap.size, 0, none⟩ = some (.int .i64 0) := by rw [(bcell hb1).1 _ _ (by first | (simp; done) | (simp; omega) | omega)]; simp [go_sem, World.cell?_alloc_past, *]
          have y3 : v1.cell? ⟨w.heap.size, 1, none⟩ = some (.int .i64 0) := by rw [(bcell hb1).1 _ _ (by first | (simp; done) | (simp; omega) | omega)]; simp [go_sem, World.cell?_alloc_past, *]
          have y4 : v1.cell? ⟨pb, po + k * 4, none⟩ = some (.int .i64 n) := by rw [(bcell hb1).1 _ _ (by first | (simp; done) | (simp; omega) | omega)]; simp [go_sem, World.cell?_alloc_past, *]
          have y5 : v1.cell? ⟨pb, po + k * 4 + 1, none⟩ = some (.int .i64 hz) := by rw [(bcell hb1).1 _ _ (by first | (simp; done) | (simp; omega) | omega)]; simp [go_sem, World.cell?_alloc_past, *]
          have y6 : v1.cell? ⟨pb, po + k * 4 + 2, none⟩ = some (.int .i64 b) := by rw [(bcell hb1).1 _ _ (by first | (simp; done) | (simp; omega) | omega)]; simp [go_sem, World.cell?_alloc_past, *]
          have y7 : v1.cell? ⟨pb, po + k * 4 + 3, none⟩ = some (.int .i64 s) := by rw [(bcell hb1).1 _ _ (by first | (simp; done) | (simp; omega) | omega)]; simp [go_sem, World.cell?_alloc_past, *]
          have y8 : v1.cell? ⟨lb, lo' + k * 4, none⟩ = some (.int .i64 la) := by rw [(bcell hb1).1 _ _ (by first | (simp; done) | (simp; omega) | omega)]; simp [go_sem, World.cell?_alloc_past, *]
          have y9 : v1.cell? ⟨lb, lo' + k * 4 + 1, none⟩ = some (.int .i64 lb') := by rw [(bcell hb1).1 _ _ (by first | (simp; done) | (simp; omega) | omega)]; simp [go_sem, World.cell?_alloc_past, *]
          have y10 : v1.cell? ⟨lb, lo' + k * 4 + 2, none⟩ = some (.int .i64 lc) := by rw [(bcell hb1).1 _ _ (by first | (simp; done) | (simp; omega) | omega)]; simp [go_sem, World.cell?_alloc_past, *]
          have y11 : v1.cell? ⟨lb, lo' + k * 4 + 3, none⟩ = some (.int .i64 ld') := by rw [(bcell hb1).1 _ _ (by first | (simp; done) | (simp; omega) | omega)]; simp [go_sem, World.cell?_alloc_past, *]
          have yf : ∀ j, v1.frozen? ⟨w.heap.size + 1, j, none⟩ = false := fun j => by rw [(bcell hb1).2 _ _ (by first | (simp; done) | (simp; omega) | omega)]; simp [go_sem, *]
          have yg : ∀ j, v1.frozen? ⟨w.heap.size, j, none⟩ = false := fun j => by rw [(bcell hb1).2 _ _ (by first | (simp; done) | (simp; omega) | omega)]; simp [go_sem, *]
          have l1 : w.heap.size + 1 < v1.heap.size := by omega
          have l2 : w.heap.size < v1.heap.size := by omega
          have l3 : pb < v1.heap.size := by omega
          have l4 : lb < v1.heap.size := by omega
          have hB1 : Below w.heap.size w v1 := (by (repeat (first | (with_reducible refine Below.drew ?_) | (with_reducible refine below_drewN ?_ _) | (with_reducible refine Below.alloc ?_ (by first | omega | (simp; done) | (simp; omega) | (simp at *; omega)) _) | (with_reducible refine Below.setCell ?_ (by first | omega | (simp; done) | (simp; omega) | (simp at *; omega)) _) | (with_reducible exact Below.refl _ _) | (with_reducible assumption) | (with_reducible refine Below.trans ?_ (Below.mono (by assumption) (by first | omega | (simp; done) | (simp; omega) | (simp at *; omega)))))))
          clear hb1 z0 z1 z2 z3 z4 z5 z6 z7 z8 z9 z10 z11 zf zg zB
          go_wp2_with fail
          refine hK.out _ _ (by simp [go_sem, World.cell?_alloc_past, *]) (fun hHeld => ?_)
          clear hK K
          try simp only [Act.put, List.setIfInBounds_toArray, List.set_cons_zero, List.set_cons_succ]
          refine wpAnyZ_call (q := 21) (by kernel_rfl) rfl rfl (fun K hK => ?_)
          go_simp
          go_wp2_with fail
          refine hK.out _ _ (by simp [go_sem, World.cell?_alloc_past, *]) (fun hHeld => ?_)
          clear hK K
          try simp only [Act.put, List.setIfInBounds_toArray, List.set_cons_zero, List.set_cons_succ]
          refine wpAnyZ_take (i := 22) (oi := ⟨some 37, _, _, _, _, _⟩) (v := ?_) (by kernel_rfl) (by kernel_rfl) rfl rfl (by kernel_rfl) (by kernel_rfl) (by kernel_rfl) (fun _ _ _ h => h) (Or.inl ⟨by kernel_rfl, ?_⟩) (by assumption) ?_
          rotate_left
          · (intro w hSw; (try dsimp only at hSw); go_simp; all_goals with_reducible rfl)
          try simp only [Act.put, List.setIfInBounds_toArray, List.set_cons_zero, List.set_cons_succ]
          refine wpAnyZ_last (by kernel_rfl) rfl (fun K hK => ?_)
          go_simp
          go_wp2_with fail
          refine hK.out _ _ ?_
          clear hK K
          try simp only [Act.put, List.setIfInBounds_toArray, List.set_cons_zero, List.set_cons_succ]
          go_wp2_with fail
          go_meet
          exact ⟨by rw [hmx]; simp [go_sem, World.cell?_alloc_past, *], by simp [go_sem, World.cell?_alloc_past, *], by simp [go_sem, World.cell?_alloc_past, *], by simp [go_sem, World.cell?_alloc_past, *], by simp [go_sem, World.cell?_alloc_past, *], by simp [go_sem, World.cell?_alloc_past, *], by simp [go_sem, World.cell?_alloc_past, *], by simp [go_sem, World.cell?_alloc_past, *], by simp [go_sem, World.cell?_alloc_past, *], by simp [go_sem, World.cell?_alloc_past, *], by simp [go_sem, World.cell?_alloc_past, *], by simp [go_sem, World.cell?_alloc_past, *], by intro j; simp [go_sem, *], by intro j; simp [go_sem, *], by first | omega | (simp; omega), by first | omega | (simp; omega), by first | omega | (simp; omega), (by (repeat (first | (with_reducible refine Below.drew ?_) | (with_reducible refine below_drewN ?_ _) | (with_reducible refine Below.alloc ?_ (by first | omega | (simp; done) | (simp; omega) | (simp at *; omega)) _) | (with_reducible refine Below.setCell ?_ (by first | omega | (simp; done) | (simp; omega) | (simp at *; omega)) _) | (with_reducible exact Below.refl _ _) | (with_reducible assumption) | (with_reducible refine Below.trans ?_ (Below.mono (by assumption) (by first | omega | (simp; done) | (simp; omega) | (simp at *; omega)))))))⟩
        · have hlt' : M0 ≤ lo := by omega
          have hmx : max lo M0 = lo := by omega
          refine wp_region_Z (S := (fun w' => w'.cell? ⟨w.heap.size + 1, 0, none⟩ = some (.int .i64 lo) ∧ w'.cell? ⟨pb, po + k * 4, none⟩ = some (.int .i64 n) ∧ w'.cell? ⟨pb, po + k * 4 + 1, none⟩ = some (.int .i64 hz) ∧ w'.cell? ⟨pb, po + k * 4 + 2, none⟩ = some (.int .i64 b) ∧ w'.cell? ⟨pb, po + k * 4 + 3, none⟩ = some (.int .i64 s) ∧ w'.cell? ⟨lb, lo' + k * 4, none⟩ = some (.int .i64 la) ∧ w'.cell? ⟨lb, lo' + k * 4 + 2, none⟩ = some (.int .i64 lc))) 23 (by kernel_rfl) (by kernel_rfl) (by kernel_rfl) (by simp [go_sem, World.cell?_alloc_past, *]) (fun hHeld => ?_)
          refine wpAnyZ_take (i := 0) (oi := ⟨some 15, _, _, _, _, _⟩) (v := ?_) (by kernel_rfl) (by kernel_rfl) rfl rfl (by kernel_rfl) (by kernel_rfl) (by kernel_rfl) (fun _ _ _ h => h) (Or.inl ⟨by kernel_rfl, ?_⟩) (by assumption) ?_
          rotate_left
          · (intro w hSw; (try dsimp only at hSw); go_simp; all_goals with_reducible rfl)
          try simp only [Act.put, List.setIfInBounds_toArray, List.set_cons_zero, List.set_cons_succ]
          refine wpAnyZ_take (i := 1) (oi := ⟨some 16, _, _, _, _, _⟩) (v := ?_) (by kernel_rfl) (by kernel_rfl) rfl rfl (by kernel_rfl) (by kernel_rfl) (by kernel_rfl) (fun _ _ _ h => h) (Or.inl ⟨by kernel_rfl, ?_⟩) (by assumption) ?_
          rotate_left
          · (intro w hSw; (try dsimp only at hSw); go_simp; all_goals with_reducible rfl)
          try simp only [Act.put, List.setIfInBounds_toArray, List.set_cons_zero, List.set_cons_succ]
          refine wpAnyZ_take (i := 2) (oi := ⟨some 17, _, _, _, _, _⟩) (v := ?_) (by kernel_rfl) (by kernel_rfl) rfl rfl (by kernel_rfl) (by kernel_rfl) (by kernel_rfl) (fun _ _ _ h => h) (Or.inl ⟨by kernel_rfl, ?_⟩) (by assumption) ?_
          rotate_left
          · (intro w hSw; (try dsimp only at hSw); go_simp; all_goals with_reducible rfl)
          try simp only [Act.put, List.setIfInBounds_toArray, List.set_cons_zero, List.set_cons_succ]
          refine wpAnyZ_take (i := 3) (oi := ⟨some 18, _, _, _, _, _⟩) (v := ?_) (by kernel_rfl) (by kernel_rfl) rfl rfl (by kernel_rfl) (by kernel_rfl) (by kernel_rfl) (fun _ _ _ h => h) (Or.inl ⟨by kernel_rfl, ?_⟩) (by assumption) ?_
          rotate_left
          · (intro w hSw; (try dsimp only at hSw); go_simp; all_goals with_reducible rfl)
          try simp only [Act.put, List.setIfInBounds_toArray, List.set_cons_zero, List.set_cons_succ]
          refine wpAnyZ_take (i := 4) (oi := ⟨some 19, _, _, _, _, _⟩) (v := ?_) (by kernel_rfl) (by kernel_rfl) rfl rfl (by kernel_rfl) (by kernel_rfl) (by kernel_rfl) (fun _ _ _ h => h) (Or.inl ⟨by kernel_rfl, ?_⟩) (by assumption) ?_
          rotate_left
          · (intro w hSw; (try dsimp only at hSw); go_simp; all_goals with_reducible rfl)
          try simp only [Act.put, List.setIfInBounds_toArray, List.set_cons_zero, List.set_cons_succ]
          refine wpAnyZ_take (i := 5) (oi := ⟨some 20, _, _, _, _, _⟩) (v := ?_) (by kernel_rfl) (by kernel_rfl) rfl rfl (by kernel_rfl) (by kernel_rfl) (by kernel_rfl) (fun _ _ _ h => h) (Or.inl ⟨by kernel_rfl, ?_⟩) (by assumption) ?_
          rotate_left
          · (intro w hSw; (try dsimp only at hSw); go_simp; all_goals with_reducible rfl)
          try simp only [Act.put, List.setIfInBounds_toArray, List.set_cons_zero, List.set_cons_succ]
          refine wpAnyZ_take (i := 6) (oi := ⟨some 21, _, _, _, _, _⟩) (v := ?_) (by kernel_rfl) (by kernel_rfl) rfl rfl (by kernel_rfl) (by kernel_rfl) (by kernel_rfl) (fun _ _ _ h => h) (Or.inl ⟨by kernel_rfl, ?_⟩) (by assumption) ?_
          rotate_left
          · (intro w hSw; (try dsimp only at hSw); go_simp; all_goals with_reducible rfl)
          try simp only [Act.put, List.setIfInBounds_toArray, List.set_cons_zero, List.set_cons_succ]
          refine wpAnyZ_take (i := 7) (oi := ⟨some 22, _, _, _, _, _⟩) (v := ?_) (by kernel_rfl) (by kernel_rfl) rfl rfl (by kernel_rfl) (by kernel_rfl) (by kernel_rfl) (fun _ _ _ h => h) (Or.inl ⟨by kernel_rfl, ?_⟩) (by assumption) ?_
          rotate_left
          · (intro w hSw; (try dsimp only at hSw); go_simp; all_goals with_reducible rfl)
          try simp only [Act.put, List.setIfInBounds_toArray, List.set_cons_zero, List.set_cons_succ]
          refine wpAnyZ_take (i := 8) (oi := ⟨some 23, _, _, _, _, _⟩) (v := ?_) (by kernel_rfl) (by kernel_rfl) rfl rfl (by kernel_rfl) (by kernel_rfl) (by kernel_rfl) (fun _ _ _ h => h) (Or.inl ⟨by kernel_rfl, ?_⟩) (by assumption) ?_
          rotate_left
          · (intro w hSw; (try dsimp only at hSw); go_simp; all_goals with_reducible rfl)
          try simp only [Act.put, List.setIfInBounds_toArray, List.set_cons_zero, List.set_cons_succ]
          refine wpAnyZ_take (i := 9) (oi := ⟨some 24, _, _, _, _, _⟩) (v := ?_) (by kernel_rfl) (by kernel_rfl) rfl rfl (by kernel_rfl) (by kernel_rfl) (by kernel_rfl) (fun _ _ _ h => h) (Or.inl ⟨by kernel_rfl, ?_⟩) (by assumption) ?_
          rotate_left
          · (intro w hSw; (try dsimp only at hSw); go_simp; all_goals with_reducible rfl)
          try simp only [Act.put, List.setIfInBounds_toArray, List.set_cons_zero, List.set_cons_succ]
          refine wpAnyZ_take (i := 10) (oi := ⟨some 25, _, _, _, _, _⟩) (v := ?_) (by kernel_rfl) (by kernel_rfl) rfl rfl (by kernel_rfl) (by kernel_rfl) (by kernel_rfl) (fun _ _ _ h => h) (Or.inl ⟨by kernel_rfl, ?_⟩) (by assumption) ?_
          rotate_left
          · (intro w hSw; (try dsimp only at hSw); go_simp; all_goals with_reducible rfl)
          try simp only [Act.put, List.setIfInBounds_toArray, List.set_cons_zero, List.set_cons_succ]
          refine wpAnyZ_take (i := 11) (oi := ⟨some 26, _, _, _, _, _⟩) (v := ?_) (by kernel_rfl) (by kernel_rfl) rfl rfl (by kernel_rfl) (by kernel_rfl) (by kernel_rfl) (fun _ _ _ h => h) (Or.inl ⟨by kernel_rfl, ?_⟩) (by assumption) ?_
          rotate_left
          · (intro w hSw; (try dsimp only at hSw); go_simp; all_goals with_reducible rfl)
          try simp only [Act.put, List.setIfInBounds_toArray, List.set_cons_zero, List.set_cons_succ]
          refine wpAnyZ_take (i := 12) (oi := ⟨some 27, _, _, _, _, _⟩) (v := ?_) (by kernel_rfl) (by kernel_rfl) rfl rfl (by kernel_rfl) (by kernel_rfl) (by kernel_rfl) (fun _ _ _ h => h) (Or.inl ⟨by kernel_rfl, ?_⟩) (by assumption) ?_
          rotate_left
          · (intro w hSw; (try dsimp only at hSw); go_simp; all_goals with_reducible rfl)
          try simp only [Act.put, List.setIfInBounds_toArray, List.set_cons_zero, List.set_cons_succ]
          refine wpAnyZ_take (i := 13) (oi := ⟨some 28, _, _, _, _, _⟩) (v := ?_) (by kernel_rfl) (by kernel_rfl) rfl rfl (by kernel_rfl) (by kernel_rfl) (by kernel_rfl) (fun _ _ _ h => h) (Or.inl ⟨by kernel_rfl, ?_⟩) (by assumption) ?_
          rotate_left
          · (intro w hSw; (try dsimp only at hSw); go_simp; all_goals with_reducible rfl)
          try simp only [Act.put, List.setIfInBounds_toArray, List.set_cons_zero, List.set_cons_succ]
          refine wpAnyZ_take (i := 14) (oi := ⟨some 29, _, _, _, _, _⟩) (v := ?_) (by kernel_rfl) (by kernel_rfl) rfl rfl (by kernel_rfl) (by kernel_rfl) (by kernel_rfl) (fun _ _ _ h => h) (Or.inl ⟨by kernel_rfl, ?_⟩) (by assumption) ?_
          rotate_left
          · (intro w hSw; (try dsimp only at hSw); go_simp; all_goals with_reducible rfl)
          try simp only [Act.put, List.setIfInBounds_toArray, List.set_cons_zero, List.set_cons_succ]
          refine wpAnyZ_take (i := 15) (oi := ⟨some 30, _, _, _, _, _⟩) (v := ?_) (by kernel_rfl) (by kernel_rfl) rfl rfl (by kernel_rfl) (by kernel_rfl) (by kernel_rfl) (fun _ _ _ h => h) (Or.inl ⟨by kernel_rfl, ?_⟩) (by assumption) ?_
          rotate_left
          · (intro w hSw; (try dsimp only at hSw); go_simp; all_goals with_reducible rfl)
          try simp only [Act.put, List.setIfInBounds_toArray, List.set_cons_zero, List.set_cons_succ]
          refine wpAnyZ_take (i := 16) (oi := ⟨some 31, _, _, _, _, _⟩) (v := ?_) (by kernel_rfl) (by kernel_rfl) rfl rfl (by kernel_rfl) (by kernel_rfl) (by kernel_rfl) (fun _ _ _ h => h) (Or.inl ⟨by kernel_rfl, ?_⟩) (by assumption) ?_
          rotate_left
          · (intro w hSw; (try dsimp only at hSw); go_simp; all_goals with_reducible rfl)
          try simp only [Act.put, List.setIfInBounds_toArray, List.set_cons_zero, List.set_cons_succ]
          refine wpAnyZ_take (i := 17) (oi := ⟨some 32, _, _, _, _, _⟩) (v := ?_) (by kernel_rfl) (by kernel_rfl) rfl rfl (by kernel_rfl) (by kernel_rfl) (by kernel_rfl) (fun _ _ _ h => h) (Or.inl ⟨by kernel_rfl, ?_⟩) (by assumption) ?_
          rotate_left
          · (intro w hSw; (try dsimp only at hSw); go_simp; all_goals with_reducible rfl)
          try simp only [Act.put, List.setIfInBounds_toArray, List.set_cons_zero, List.set_cons_succ]
          refine wpAnyZ_take (i := 18) (oi := ⟨some 33, _, _, _, _, _⟩) (v := ?_) (by kernel_rfl) (by kernel_rfl) rfl rfl (by kernel_rfl) (by kernel_rfl) (by kernel_rfl) (fun _ _ _ h => h) (Or.inl ⟨by kernel_rfl, ?_⟩) (by assumption) ?_
          rotate_left
          · (intro w hSw; (try dsimp only at hSw); go_simp; all_goals with_reducible rfl)
          try simp only [Act.put, List.setIfInBounds_toArray, List.set_cons_zero, List.set_cons_succ]
          refine wpAnyZ_take (i := 19) (oi := ⟨some 34, _, _, _, _, _⟩) (v := ?_) (by kernel_rfl) (by kernel_rfl) rfl rfl (by kernel_rfl) (by kernel_rfl) (by kernel_rfl) (fun _ _ _ h => h) (Or.inl ⟨by kernel_rfl, ?_⟩) (by assumption) ?_
          rotate_left
          · (intro w hSw; (try dsimp only at hSw); go_simp; all_goals with_reducible rfl)
          try simp only [Act.put, List.setIfInBounds_toArray, List.set_cons_zero, List.set_cons_succ]
          refine wpAnyZ_call (q := 20) (by kernel_rfl) rfl rfl (fun K hK => ?_)
          go_simp
          refine (HC0.out _).mono ?_
          rintro e v1 ⟨rfl, hb1⟩
          have zs1 := hb1.size
          try simp at zs1
          have y0 : v1.cell? ⟨w.heap.size + 1, 0, none⟩ = some (.int .i64 lo) := by rw [(bcell hb1).1 _ _ (by first | (simp; done) | (simp; omega) | omega)]; simp [go_sem, World.cell?_alloc_past, *]
          have y1 : v1.cell? ⟨w.heap.size + 1, 1, none⟩ = some (.int .i64 hi) := by rw [(bcell hb1).1 _ _ (by first | (simp; done) | (simp; omega) | omega)]; simp [go_sem, World.cell?_alloc_past, *]
          have y2 : v1.cell? ⟨w.heap.size, 0, none⟩ = some (.int .i64 0) := by rw [(bcell hb1).1 _ _ (by first | (simp; done) | (simp; omega) | omega)]; simp [go_sem, World.cell?_alloc_past, *]
          have y3 : v1.cell? ⟨w.heap.size, 1, none⟩ = some (.int .i64 0) := by rw [(bcell hb1).1 _ _ (by first | (simp; done) | (simp; omega) | omega)]; simp [go_sem, World.cell?_alloc_past, *]
          have y4 : v1.cell? ⟨pb, po + k * 4, none⟩ = some (.int .i64 n) := by rw [(bcell hb1).1 _ _ (by first | (simp; done) | (simp; omega) | omega)]; simp [go_sem, World.cell?_alloc_past, *]
          have y5 : v1.cell? ⟨pb, po + k * 4 + 1, none⟩ = some (.int .i64 hz) := by rw [(bcell hb1).1 _ _ (by first | (simp; done) | (simp; omega) | omega)]; simp [go_sem, World.cell?_alloc_past, *]
          have y6 : v1.cell? ⟨pb, po + k * 4 + 2, none⟩ = some (.int .i64 b) := by rw [(bcell hb1).1 _ _ (by first | (simp; done) | (simp; omega) | omega)]; simp [go_sem, World.cell?_alloc_past, *]
          have y7 : v1.cell? ⟨pb, po + k * 4 + 3, none⟩ = some (.int .i64 s) := by rw [(bcell hb1).1 _ _ (by first | (simp; done) | (simp; omega) | omega)]; simp [go_sem, World.cell?_alloc_past, *]
          have y8 : v1.cell? ⟨lb, lo' + k * 4, none⟩ = some (.int .i64 la) := by rw [(bcell hb1).1 _ _ (by first | (simp; done) | (simp; omega) | omega)]; simp [go_sem, World.cell?_alloc_past, *]
          have y9 : v1.cell? ⟨lb, lo' + k * 4 + 1, none⟩ = some (.int .i64 lb') := by rw [(bcell hb1).1 _ _ (by first | (simp; done) | (simp; omega) | omega)]; simp [go_sem, World.cell?_alloc_past, *]
          have y10 : v1.cell? ⟨lb, lo' + k * 4 + 2, none⟩ = some (.int .i64 lc) := by rw [(bcell hb1).1 _ _ (by first | (simp; done) | (simp; omega) | omega)]; simp [go_sem, World.cell?_alloc_past, *]
          have y11 : v1.cell? ⟨lb, lo' + k * 4 + 3, none⟩ = some (.int .i64 ld') := by rw [(bcell hb1).1 _ _ (by first | (simp; done) | (simp; omega) | omega)]; simp [go_sem, World.cell?_alloc_past, *]
          have yf : ∀ j, v1.frozen? ⟨w.heap.size + 1, j, none⟩ = false := fun j => by rw [(bcell hb1).2 _ _ (by first | (simp; done) | (simp; omega) | omega)]; simp [go_sem, *]
          have yg : ∀ j, v1.frozen? ⟨w.heap.size, j, none⟩ = false := fun j => by rw [(bcell hb1).2 _ _ (by first | (simp; done) | (simp; omega) | omega)]; simp [go_sem, *]
          have l1 : w.heap.size + 1 < v1.heap.size := by omega
          have l2 : w.heap.size < v1.heap.size := by omega
          have l3 : pb < v1.heap.size := by omega
          have l4 : lb < v1.heap.size := by omega
          have hB1 : Below w.heap.size w v1 := (by (repeat (first | (with_reducible refine Below.drew ?_) | (with_reducible refine below_drewN ?_ _) | (with_reducible refine Below.alloc ?_ (by first | omega | (simp; done) | (simp; omega) | (simp at *; omega)) _) | (with_reducible refine Below.setCell ?_ (by first | omega | (simp; done) | (simp; omega) | (simp at *; omega)) _) | (with_reducible exact Below.refl _ _) | (with_reducible assumption) | (with_reducible refine Below.trans ?_ (Below.mono (by assumption) (by first | omega | (simp; done) | (simp; omega) | (simp at *; omega)))))))
          clear hb1 z0 z1 z2 z3 z4 z5 z6 z7 z8 z9 z10 z11 zf zg zB
          go_wp2_with fail
          refine hK.out _ _ (by simp [go_sem, World.cell?_alloc_past, *]) (fun hHeld => ?_)
          clear hK K
          try simp only [Act.put, List.setIfInBounds_toArray, List.set_cons_zero, List.set_cons_succ]
          refine wpAnyZ_call (q := 21) (by kernel_rfl) rfl rfl (fun K hK => ?_)
          go_simp
          go_wp2_with fail
          refine hK.out _ _ (by simp [go_sem, World.cell?_alloc_past, *]) (fun hHeld => ?_)
          clear hK K
          try simp only [Act.put, List.setIfInBounds_toArray, List.set_cons_zero, List.set_cons_succ]
          refine wpAnyZ_take (i := 22) (oi := ⟨some 37, _, _, _, _, _⟩) (v := ?_) (by kernel_rfl) (by kernel_rfl) rfl rfl (by kernel_rfl) (by kernel_rfl) (by kernel_rfl) (fun _ _ _ h => h) (Or.inl ⟨by kernel_rfl, ?_⟩) (by assumption) ?_
          rotate_left
          · (intro w hSw; (try dsimp only at hSw); go_simp; all_goals with_reducible rfl)
          try simp only [Act.put, List.setIfInBounds_toArray, List.set_cons_zero, List.set_cons_succ]
          refine wpAnyZ_last (by kernel_rfl) rfl (fun K hK => ?_)
          go_simp
          go_wp2_with fail
          refine hK.out _ _ ?_
          clear hK K
          try simp only [Act.put, List.setIfInBounds_toArray, List.set_cons_zero, List.set_cons_succ]
          go_wp2_with fail
          go_meet
          exact ⟨by rw [hmx]; simp [go_sem, World.cell?_alloc_past, *], by simp [go_sem, World.cell?_alloc_past, *], by simp [go_sem, World.cell?_alloc_past, *], by simp [go_sem, World.cell?_alloc_past, *], by simp [go_sem, World.cell?_alloc_past, *], by simp [go_sem, World.cell?_alloc_past, *], by simp [go_sem, World.cell?_alloc_past, *], by simp [go_sem, World.cell?_alloc_past, *], by simp [go_sem, World.cell?_alloc_past, *], by simp [go_sem, World.cell?_alloc_past, *], by simp [go_sem, World.cell?_alloc_past, *], by simp [go_sem, World.cell?_alloc_past, *], by intro j; simp [go_sem, *], by intro j; simp [go_sem, *], by first | omega | (simp; omega), by first | omega | (simp; omega), by first | omega | (simp; omega), (by (repeat (first | (with_reducible refine Below.drew ?_) | (with_reducible refine below_drewN ?_ _) | (with_reducible refine Below.alloc ?_ (by first | omega | (simp; done) | (simp; omega) | (simp at *; omega)) _) | (with_reducible refine Below.setCell ?_ (by first | omega | (simp; done) | (simp; omega) | (simp at *; omega)) _) | (with_reducible exact Below.refl _ _) | (with_reducible assumption) | (with_reducible refine Below.trans ?_ (Below.mono (by assumption) (by first | omega | (simp; done) | (simp; omega) | (simp at *; omega)))))))⟩
      case rest =>
      obtain ⟨u0, u1, u2, u3, u4, u5, u6, u7, u8, u9, u10, u11, uf, ug, m1, plt, llt, uB⟩ := hcut
      clear z0 z1 z2 z3 z4 z5 z6 z7 z8 z9 z10 z11 zf zg zB
      have m2 : wc.heap.size ≠ w.heap.size + 1 := by omega
      have m3 : w.heap.size < wc.heap.size := by omega
      have m4 : wc.heap.size ≠ w.heap.size := by omega
      obtain ⟨wd, hwd⟩ : ∃ V, V = wc := ⟨_, rfl⟩
      rw [← hwd] at u0 u1 u2 u3 u4 u5 u6 u7 u8 u9 u10 u11 uf ug m1 plt llt uB m2 m3 m4
      rw [← hwd]
      clear hwd
      obtain ⟨N0, hN0⟩ : ∃ z, Hid (max lo M0 = z) := ⟨_, Lib.hid rfl⟩
      rw [hN0.out] at u0
      rw [hN0.out] at HST
      go_upto_region 6 with (fail)
      by_cases hlt : hi < M1
      · have hmx : max hi M1 = M1 := by omega
        refine wp_region_Z (S := (fun w' => w'.cell? ⟨w.heap.size + 1, 1, none⟩ = some (.int .i64 hi) ∧ w'.cell? ⟨pb, po + k * 4, none⟩ = some (.int .i64 n) ∧ w'.cell? ⟨pb, po + k * 4 + 1, none⟩ = some (.int .i64 hz) ∧ w'.cell? ⟨pb, po + k * 4 + 2, none⟩ = some (.int .i64 b) ∧ w'.cell? ⟨pb, po + k * 4 + 3, none⟩ = some (.int .i64 s) ∧ w'.cell? ⟨lb, lo' + k * 4 + 1, none⟩ = some (.int .i64 lb') ∧ w'.cell? ⟨lb, lo' + k * 4 + 3, none⟩ = some (.int .i64 ld'))) 23 (by kernel_rfl) (by kernel_rfl) (by kernel_rfl) (by simp [go_sem, World.cell?_alloc_past, *]) (fun hHeld => ?_)
        refine wpAnyZ_take (i := 0) (oi := ⟨some 38, _, _, _, _, _⟩) (v := ?_) (by kernel_rfl) (by kernel_rfl) rfl rfl (by kernel_rfl) (by kernel_rfl) (by kernel_rfl) (fun _ _ _ h => h) (Or.inl ⟨by kernel_rfl, ?_⟩) (by assumption) ?_
        rotate_left
        · (intro w hSw; (try dsimp only at hSw); go_simp; all_goals with_reducible rfl)
        try simp only [Act.put, List.setIfInBounds_toArray, List.set_cons_zero, List.set_cons_succ]
        refine wpAnyZ_take (i := 1) (oi := ⟨some 39, _, _, _, _, _⟩) (v := ?_) (by kernel_rfl) (by kernel_rfl) rfl rfl (by kernel_rfl) (by kernel_rfl) (by kernel_rfl) (fun _ _ _ h => h) (Or.inl ⟨by kernel_rfl, ?_⟩) (by assumption) ?_
        rotate_left
        · (intro w hSw; (try dsimp only at hSw); go_simp; all_goals with_reducible rfl)
        try simp only [Act.put, List.setIfInBounds_toArray, List.set_cons_zero, List.set_cons_succ]
        refine wpAnyZ_take (i := 2) (oi := ⟨some 40, _, _, _, _, _⟩) (v := ?_) (by kernel_rfl) (by kernel_rfl) rfl rfl (by kernel_rfl) (by kernel_rfl) (by kernel_rfl) (fun _ _ _ h => h) (Or.inl ⟨by kernel_rfl, ?_⟩) (by assumption) ?_
        rotate_left
        · (intro w hSw; (try dsimp only at hSw); go_simp; all_goals with_reducible rfl)
        try simp only [Act.put, List.setIfInBounds_toArray, List.set_cons_zero, List.set_cons_succ]
        refine wpAnyZ_take (i := 3) (oi := ⟨some 41, _, _, _, _, _⟩) (v := ?_) (by kernel_rfl) (by kernel_rfl) rfl rfl (by kernel_rfl) (by kernel_rfl) (by kernel_rfl) (fun _ _ _ h => h) (Or.inl ⟨by kernel_rfl, ?_⟩) (by assumption) ?_
        rotate_left
        · (intro w hSw; (try dsimp only at hSw); go_simp; all_goals with_reducible rfl)
        try simp only [Act.put, List.setIfInBounds_toArray, List.set_cons_zero, List.set_cons_succ]
        refine wpAnyZ_take (i := 4) (oi := ⟨some 42, _, _, _, _, _⟩) (v := ?_) (by kernel_rfl) (by kernel_rfl) rfl rfl (by kernel_rfl) (by kernel_rfl) (by kernel_rfl) (fun _ _ _ h => h) (Or.inl ⟨by kernel_rfl, ?_⟩) (by assumption) ?_
        rotate_left
        · (intro w hSw; (try dsimp only at hSw); go_simp; all_goals with_reducible rfl)
        try simp only [Act.put, List.setIfInBounds_toArray, List.set_cons_zero, List.set_cons_succ]
        refine wpAnyZ_take (i := 5) (oi := ⟨some 43, _, _, _, _, _⟩) (v := ?_) (by kernel_rfl) (by kernel_rfl) rfl rfl (by kernel_rfl) (by kernel_rfl) (by kernel_rfl) (fun _ _ _ h => h) (Or.inl ⟨by kernel_rfl, ?_⟩) (by assumption) ?_
        rotate_left
        · (intro w hSw; (try dsimp only at hSw); go_simp; all_goals with_reducible rfl)
        try simp only [Act.put, List.setIfInBounds_toArray, List.set_cons_zero, List.set_cons_succ]
        refine wpAnyZ_take (i := 6) (oi := ⟨some 44, _, _, _, _, _⟩) (v := ?_) (by kernel_rfl) (by kernel_rfl) rfl rfl (by kernel_rfl) (by kernel_rfl) (by kernel_rfl) (fun _ _ _ h => h) (Or.inl ⟨by kernel_rfl, ?_⟩) (by assumption) ?_
        rotate_left
        · (intro w hSw; (try dsimp only at hSw); go_simp; all_goals with_reducible rfl)
        try simp only [Act.put, List.setIfInBounds_toArray, List.set_cons_zero, List.set_cons_succ]
        refine wpAnyZ_take (i := 7) (oi := ⟨some 45, _, _, _, _, _⟩) (v := ?_) (by kernel_rfl) (by kernel_rfl) rfl rfl (by kernel_rfl) (by kernel_rfl) (by kernel_rfl) (fun _ _ _ h => h) (Or.inl ⟨by kernel_rfl, ?_⟩) (by assumption) ?_
        rotate_left
        · (intro w hSw; (try dsimp only at hSw); go_simp; all_goals with_reducible rfl)
        try simp only [Act.put, List.setIfInBounds_toArray, List.set_cons_zero, List.set_cons_succ]
        refine wpAnyZ_take (i := 8) (oi := ⟨some 46, _, _, _, _, _⟩) (v := ?_) (by kernel_rfl) (by kernel_rfl) rfl rfl (by kernel_rfl) (by kernel_rfl) (by kernel_rfl) (fun _ _ _ h => h) (Or.inl ⟨by kernel_rfl, ?_⟩) (by assumption) ?_
        rotate_left
        · (intro w hSw; (try dsimp only at hSw); go_simp; all_goals with_reducible rfl)
        try simp only [Act.put, List.setIfInBounds_toArray, List.set_cons_zero, List.set_cons_succ]
        refine wpAnyZ_take (i := 9) (oi := ⟨some 47, _, _, _, _, _⟩) (v := ?_) (by kernel_rfl) (by kernel_rfl) rfl rfl (by kernel_rfl) (by kernel_rfl) (by kernel_rfl) (fun _ _ _ h => h) (Or.inl ⟨by kernel_rfl, ?_⟩) (by assumption) ?_
        rotate_left
        · (intro w hSw; (try dsimp only at hSw); go_simp; all_goals with_reducible rfl)
        try simp only [Act.put, List.setIfInBounds_toArray, List.set_cons_zero, List.set_cons_succ]
        refine wpAnyZ_take (i := 10) (oi := ⟨some 48, _, _, _, _, _⟩) (v := ?_) (by kernel_rfl) (by kernel_rfl) rfl rfl (by kernel_rfl) (by kernel_rfl) (by kernel_rfl) (fun _ _ _ h => h) (Or.inl ⟨by kernel_rfl, ?_⟩) (by assumption) ?_
        rotate_left
        · (intro w hSw; (try dsimp only at hSw); go_simp; all_goals with_reducible rfl)
        try simp only [Act.put, List.setIfInBounds_toArray, List.set_cons_zero, List.set_cons_succ]
        refine wpAnyZ_take (i := 11) (oi := ⟨some 49, _, _, _, _, _⟩) (v := ?_) (by kernel_rfl) (by kernel_rfl) rfl rfl (by kernel_rfl) (by kernel_rfl) (by kernel_rfl) (fun _ _ _ h => h) (Or.inl ⟨by kernel_rfl, ?_⟩) (by assumption) ?_
        rotate_left
        · (intro w hSw; (try dsimp only at hSw); go_simp; all_goals with_reducible rfl)
        try simp only [Act.put, List.setIfInBounds_toArray, List.set_cons_zero, List.set_cons_succ]
        refine wpAnyZ_take (i := 12) (oi := ⟨some 50, _, _, _, _, _⟩) (v := ?_) (by kernel_rfl) (by kernel_rfl) rfl rfl (by kernel_rfl) (by kernel_rfl) (by kernel_rfl) (fun _ _ _ h => h) (Or.inl ⟨by kernel_rfl, ?_⟩) (by assumption) ?_
        rotate_left
        · (intro w hSw; (try dsimp only at hSw); go_simp; all_goals with_reducible rfl)
        try simp only [Act.put, List.setIfInBounds_toArray, List.set_cons_zero, List.set_cons_succ]
        refine wpAnyZ_take (i := 13) (oi := ⟨some 51, _, _, _, _, _⟩) (v := ?_) (by kernel_rfl) (by kernel_rfl) rfl rfl (by kernel_rfl) (by kernel_rfl) (by kernel_rfl) (fun _ _ _ h => h) (Or.inl ⟨by kernel_rfl, ?_⟩) (by assumption) ?_
        rotate_left
        · (intro w hSw; (try dsimp only at hSw); go_simp; all_goals with_reducible rfl)
        try simp only [Act.put, List.setIfInBounds_toArray, List.set_cons_zero, List.set_cons_succ]
        refine wpAnyZ_take (i := 14) (oi := ⟨some 52, _, _, _, _, _⟩) (v := ?_) (by kernel_rfl) (by kernel_rfl) rfl rfl (by kernel_rfl) (by kernel_rfl) (by kernel_rfl) (fun _ _ _ h => h) (Or.inl ⟨by kernel_rfl, ?_⟩) (by assumption) ?_
        rotate_left
        · (intro w hSw; (try dsimp only at hSw); go_simp; all_goals with_reducible rfl)
        try simp only [Act.put, List.setIfInBounds_toArray, List.set_cons_zero, List.set_cons_succ]
        refine wpAnyZ_take (i := 15) (oi := ⟨some 53, _, _, _, _, _⟩) (v := ?_) (by kernel_rfl) (by kernel_rfl) rfl rfl (by kernel_rfl) (by kernel_rfl) (by kernel_rfl) (fun _ _ _ h => h) (Or.inl ⟨by kernel_rfl, ?_⟩) (by assumption) ?_
        rotate_left
        · (intro w hSw; (try dsimp only at hSw); go_simp; all_goals with_reducible rfl)
        try simp only [Act.put, List.setIfInBounds_toArray, List.set_cons_zero, List.set_cons_succ]
        refine wpAnyZ_take (i := 16) (oi := ⟨some 54, _, _, _, _, _⟩) (v := ?_) (by kernel_rfl) (by kernel_rfl) rfl rfl (by kernel_rfl) (by kernel_rfl) (by kernel_rfl) (fun _ _ _ h => h) (Or.inl ⟨by kernel_rfl, ?_⟩) (by assumption) ?_
        rotate_left
        · (intro w hSw; (try dsimp only at hSw); go_simp; all_goals with_reducible rfl)
        try simp only [Act.put, List.setIfInBounds_toArray, List.set_cons_zero, List.set_cons_succ]
        refine wpAnyZ_take (i := 17) (oi := ⟨some 55, _, _, _, _, _⟩) (v := ?_) (by kernel_rfl) (by kernel_rfl) rfl rfl (by kernel_rfl) (by kernel_rfl) (by kernel_rfl) (fun _ _ _ h => h) (Or.inl ⟨by kernel_rfl, ?_⟩) (by assumption) ?_
        rotate_left
        · (intro w hSw; (try dsimp only at hSw); go_simp; all_goals with_reducible rfl)
        try simp only [Act.put, List.setIfInBounds_toArray, List.set_cons_zero, List.set_cons_succ]
        refine wpAnyZ_take (i := 18) (oi := ⟨some 56, _, _, _, _, _⟩) (v := ?_) (by kernel_rfl) (by kernel_rfl) rfl rfl (by kernel_rfl) (by kernel_rfl) (by kernel_rfl) (fun _ _ _ h => h) (Or.inl ⟨by kernel_rfl, ?_⟩) (by assumption) ?_
        rotate_left
        · (intro w hSw; (try dsimp only at hSw); go_simp; all_goals with_reducible rfl)
        try simp only [Act.put, List.setIfInBounds_toArray, List.set_cons_zero, List.set_cons_succ]
        refine wpAnyZ_take (i := 19) (oi := ⟨some 57, _, _, _, _, _⟩) (v := ?_) (by kernel_rfl) (by kernel_rfl) rfl rfl (by kernel_rfl) (by kernel_rfl) (by kernel_rfl) (fun _ _ _ h => h) (Or.inl ⟨by kernel_rfl, ?_⟩) (by assumption) ?_
        rotate_left
        · (intro w hSw; (try dsimp only at hSw); go_simp; all_goals with_reducible rfl)
        try simp only [Act.put, List.setIfInBounds_toArray, List.set_cons_zero, List.set_cons_succ]
        refine wpAnyZ_call (q := 20) (by kernel_rfl) rfl rfl (fun K hK => ?_)
        go_simp
        refine (HC1.out _).mono ?_
        rintro e v1 ⟨rfl, hb1⟩
        have zs1 := hb1.size
        try simp at zs1
        have y0 : v1.cell? ⟨w.heap.size + 1, 0, none⟩ = some (.int .i64 N0) := by rw [(bcell hb1).1 _ _ (by first | (simp; done) | (simp; omega) | omega)]; simp [go_sem, World.cell?_alloc_past, *]
        have y1 : v1.cell? ⟨w.heap.size + 1, 1, none⟩ = some (.int .i64 hi) := by rw [(bcell hb1).1 _ _ (by first | (simp; done) | (simp; omega) | omega)]; simp [go_sem, World.cell?_alloc_past, *]
        have y2 : v1.cell? ⟨w.heap.size, 0, none⟩ = some (.int .i64 0) := by rw [(bcell hb1).1 _ _ (by first | (simp; done) | (simp; omega) | omega)]; simp [go_sem, World.cell?_alloc_past, *]
        have y3 : v1.cell? ⟨w.heap.size, 1, none⟩ = some (.int .i64 0) := by rw [(bcell hb1).1 _ _ (by first | (simp; done) | (simp; omega) | omega)]; simp [go_sem, World.cell?_alloc_past, *]
        have y4 : v1.cell? ⟨pb, po + k * 4, none⟩ = some (.int .i64 n) := by rw [(bcell hb1).1 _ _ (by first | (simp; done) | (simp; omega) | omega)]; simp [go_sem, World.cell?_alloc_past, *]
        have y5 : v1.cell? ⟨pb, po + k * 4 + 1, none⟩ = some (.int .i64 hz) := by rw [(bcell hb1).1 _ _ (by first | (simp; done) | (simp; omega) | omega)]; simp [go_sem, World.cell?_alloc_past, *]
        have y6 : v1.cell? ⟨pb, po + k * 4 + 2, none⟩ = some (.int .i64 b) := by rw [(bcell hb1).1 _ _ (by first | (simp; done) | (simp; omega) | omega)]; simp [go_sem, World.cell?_alloc_past, *]
        have y7 : v1.cell? ⟨pb, po + k * 4 + 3, none⟩ = some (.int .i64 s) := by rw [(bcell hb1).1 _ _ (by first | (simp; done) | (simp; omega) | omega)]; simp [go_sem, World.cell?_alloc_past, *]
        have y8 : v1.cell? ⟨lb, lo' + k * 4, none⟩ = some (.int .i64 la) := by rw [(bcell hb1).1 _ _ (by first | (simp; done) | (simp; omega) | omega)]; simp [go_sem, World.cell?_alloc_past, *]
        have y9 : v1.cell? ⟨lb, lo' + k * 4 + 1, none⟩ = some (.int .i64 lb') := by rw [(bcell hb1).1 _ _ (by first | (simp; done) | (simp; omega) | omega)]; simp [go_sem, World.cell?_alloc_past, *]
        have y10 : v1.cell? ⟨lb, lo' + k * 4 + 2, none⟩ = some (.int .i64 lc) := by rw [(bcell hb1).1 _ _ (by first | (simp; done) | (simp; omega) | omega)]; simp [go_sem, World.cell?_alloc_past, *]
        have y11 : v1.cell? ⟨lb, lo' + k * 4 + 3, none⟩ = some (.int .i64 ld') := by rw [(bcell hb1).1 _ _ (by first | (simp; done) | (simp; omega) | omega)]; simp [go_sem, World.cell?_alloc_past, *]
        have yf : ∀ j, v1.frozen? ⟨w.heap.size + 1, j, none⟩ = false := fun j => by rw [(bcell hb1).2 _ _ (by first | (simp; done) | (simp; omega) | omega)]; simp [go_sem, *]
        have yg : ∀ j, v1.frozen? ⟨w.heap.size, j, none⟩ = false := fun j => by rw [(bcell hb1).2 _ _ (by first | (simp; done) | (simp; omega) | omega)]; simp [go_sem, *]
        have l1 : w.heap.size + 1 < v1.heap.size := by omega
        have l2 : w.heap.size < v1.heap.size := by omega
        have l3 : pb < v1.heap.size := by omega
        have l4 : lb < v1.heap.size := by omega
        have hB1 : Below w.heap.size w v1 := (by (repeat (first | (with_reducible refine Below.drew ?_) | (with_reducible refine below_drewN ?_ _) | (with_reducible refine Below.alloc ?_ (by first | omega | (simp; done) | (simp; omega) | (simp at *; omega)) _) | (with_reducible refine Below.setCell ?_ (by first | omega | (simp; done) | (simp; omega) | (simp at *; omega)) _) | (with_reducible exact Below.refl _ _) | (with_reducible assumption) | (with_reducible refine Below.trans ?_ (Below.mono (by assumption) (by first | omega | (simp; done) | (simp; omega) | (simp at *; omega)))))))
        clear hb1 u0 u1 u2 u3 u4 u5 u6 u7 u8 u9 u10 u11 uf ug uB
        go_wp2_with fail
        refine hK.out _ _ (by simp [go_sem, World.cell?_alloc_past, *]) (fun hHeld => ?_)
        clear hK K
        try simp only [Act.put, List.setIfInBounds_toArray, List.set_cons_zero, List.set_cons_succ]
        refine wpAnyZ_call (q := 21) (by kernel_rfl) rfl rfl (fun K hK => ?_)
        go_simp
        go_wp2_with fail
        refine hK.out _ _ (by simp [go_sem, World.cell?_alloc_past, *]) (fun hHeld => ?_)
        clear hK K
        try simp only [Act.put, List.setIfInBounds_toArray, List.set_cons_zero, List.set_cons_succ]
        refine wpAnyZ_take (i := 22) (oi := ⟨some 60, _, _, _, _, _⟩) (v := ?_) (by kernel_rfl) (by kernel_rfl) rfl rfl (by kernel_rfl) (by kernel_rfl) (by kernel_rfl) (fun _ _ _ h => h) (Or.inl ⟨by kernel_rfl, ?_⟩) (by assumption) ?_
        rotate_left
        · (intro w hSw; (try dsimp only at hSw); go_simp; all_goals with_reducible rfl)
        try simp only [Act.put, List.setIfInBounds_toArray, List.set_cons_zero, List.set_cons_succ]
        refine wpAnyZ_last (by kernel_rfl) rfl (fun K hK => ?_)
        go_simp
        go_wp2_with fail
        refine hK.out _ _ ?_
        clear hK K
        try simp only [Act.put, List.setIfInBounds_toArray, List.set_cons_zero, List.set_cons_succ]
        go_wp2
        go_roundw
        case rel => exact ⟨k + 1, N0, max hi M1, by omega, by go_num, HST.out.symm, by simp [go_sem, World.cell?_alloc_past, *], by rw [hmx]; simp [go_sem, World.cell?_alloc_past, *], by intro j; simp [go_sem, *], by simp [go_sem, World.cell?_alloc_past, *], by simp [go_sem, World.cell?_alloc_past, *], by intro j; simp [go_sem, *], by first | omega | (simp; omega), (by (repeat (first | (with_reducible refine Below.drew ?_) | (with_reducible refine below_drewN ?_ _) | (with_reducible refine Below.alloc ?_ (by first | omega | (simp; done) | (simp; omega) | (simp at *; omega)) _) | (with_reducible refine Below.setCell ?_ (by first | omega | (simp; done) | (simp; omega) | (simp at *; omega)) _) | (with_reducible exact Below.refl _ _) | (with_reducible assumption) | (with_reducible refine Below.trans ?_ (Below.mono (by assumption) (by first | omega | (simp; done) | (simp; omega) | (simp at *; omega)))))))⟩
        case measure => (simp [intOf]) <;> omega
      · have hlt' : M1 ≤ hi := by omega
        have hmx : max hi M1 = hi := by omega
        refine wp_region_Z (S := (fun w' => w'.cell? ⟨w.heap.size + 1, 1, none⟩ = some (.int .i64 hi) ∧ w'.cell? ⟨pb, po + k * 4, none⟩ = some (.int .i64 n) ∧ w'.cell? ⟨pb, po + k * 4 + 1, none⟩ = some (.int .i64 hz) ∧ w'.cell? ⟨pb, po + k * 4 + 2, none⟩ = some (.int .i64 b) ∧ w'.cell? ⟨pb, po + k * 4 + 3, none⟩ = some (.int .i64 s) ∧ w'.cell? ⟨lb, lo' + k * 4 + 1, none⟩ = some (.int .i64 lb') ∧ w'.cell? ⟨lb, lo' + k * 4 + 3, none⟩ = some (.int .i64 ld'))) 23 (by kernel_rfl) (by kernel_rfl) (by kernel_rfl) (by simp [go_sem, World.cell?_alloc_past, *]) (fun hHeld => ?_)
        refine wpAnyZ_take (i := 0) (oi := ⟨some 38, _, _, _, _, _⟩) (v := ?_) (by kernel_rfl) (by kernel_rfl) rfl rfl (by kernel_rfl) (by kernel_rfl) (by kernel_rfl) (fun _ _ _ h => h) (Or.inl ⟨by kernel_rfl, ?_⟩) (by assumption) ?_
        rotate_left
        · (intro w hSw; (try dsimp only at hSw); go_simp; all_goals with_reducible rfl)
        try simp only [Act.put, List.setIfInBounds_toArray, List.set_cons_zero, List.set_cons_succ]
        refine wpAnyZ_take (i := 1) (oi := ⟨some 39, _, _, _, _, _⟩) (v := ?_) (by kernel_rfl) (by kernel_rfl) rfl rfl (by kernel_rfl) (by kernel_rfl) (by kernel_rfl) (fun _ _ _ h => h) (Or.inl ⟨by kernel_rfl, ?_⟩) (by assumption) ?_
        rotate_left
        · (intro w hSw; (try dsimp only at hSw); go_simp; all_goals with_reducible rfl)
        try simp only [Act.put, List.setIfInBounds_toArray, List.set_cons_zero, List.set_cons_succ]
        refine wpAnyZ_take (i := 2) (oi := ⟨some 40, _, _, _, _, _⟩) (v := ?_) (by kernel_rfl) (by kernel_rfl) rfl rfl (by kernel_rfl) (by kernel_rfl) (by kernel_rfl) (fun _ _ _ h => h) (Or.inl ⟨by kernel_rfl, ?_⟩) (by assumption) ?_
        rotate_left
        · (intro w hSw; (try dsimp only at hSw); go_simp; all_goals with_reducible rfl)
        try simp only [Act.put, List.setIfInBounds_toArray, List.set_cons_zero, List.set_cons_succ]
        refine wpAnyZ_take (i := 3) (oi := ⟨some 41, _, _, _, _, _⟩) (v := ?_) (by kernel_rfl) (by kernel_rfl) rfl rfl (by kernel_rfl) (by kernel_rfl) (by kernel_rfl) (fun _ _ _ h => h) (Or.inl ⟨by kernel_rfl, ?_⟩) (by assumption) ?_
        rotate_left
        · (intro w hSw; (try dsimp only at hSw); go_simp; all_goals with_reducible rfl)
        try simp only [Act.put, List.setIfInBounds_toArray, List.set_cons_zero, List.set_cons_succ]
        refine wpAnyZ_take (i := 4) (oi := ⟨some 42, _, _, _, _, _⟩) (v := ?_) (by kernel_rfl) (by kernel_rfl) rfl rfl (by kernel_rfl) (by kernel_rfl) (by kernel_rfl) (fun _ _ _ h => h) (Or.inl ⟨by kernel_rfl, ?_⟩) (by assumption) ?_
        rotate_left
        · (intro w hSw; (try dsimp only at hSw); go_simp; all_goals with_reducible rfl)
        try simp only [Act.put, List.setIfInBounds_toArray, List.set_cons_zero, List.set_cons_succ]
        refine wpAnyZ_take (i := 5) (oi := ⟨some 43, _, _, _, _, _⟩) (v := ?_) (by kernel_rfl) (by kernel_rfl) rfl rfl (by kernel_rfl) (by kernel_rfl) (by kernel_rfl) (fun _ _ _ h => h) (Or.inl ⟨by kernel_rfl, ?_⟩) (by assumption) ?_
        rotate_left
        · (intro w hSw; (try dsimp only at hSw); go_simp; all_goals with_reducible rfl)
        try simp only [Act.put, List.setIfInBounds_toArray, List.set_cons_zero, List.set_cons_succ]
        refine wpAnyZ_take (i := 6) (oi := ⟨some 44, _, _, _, _, _⟩) (v := ?_) (by kernel_rfl) (by kernel_rfl) rfl rfl (by kernel_rfl) (by kernel_rfl) (by kernel_rfl) (fun _ _ _ h => h) (Or.inl ⟨by kernel_rfl, ?_⟩) (by assumption) ?_
        rotate_left
        · (intro w hSw; (try dsimp only at hSw); go_simp; all_goals with_reducible rfl)
        try simp only [Act.put, List.setIfInBounds_toArray, List.set_cons_zero, List.set_cons_succ]
        refine wpAnyZ_take (i := 7) (oi := ⟨some 45, _, _, _, _, _⟩) (v := ?_) (by kernel_rfl) (by kernel_rfl) rfl rfl (by kernel_rfl) (by kernel_rfl) (by kernel_rfl) (fun _ _ _ h => h) (Or.inl ⟨by kernel_rfl, ?_⟩) (by assumption) ?_
        rotate_left
        · (intro w hSw; (try dsimp only at hSw); go_simp; all_goals with_reducible rfl)
        try simp only [Act.put, List.setIfInBounds_toArray, List.set_cons_zero, List.set_cons_succ]
        refine wpAnyZ_take (i := 8) (oi := ⟨some 46, _, _, _, _, _⟩) (v := ?_) (by kernel_rfl) (by kernel_rfl) rfl rfl (by kernel_rfl) (by kernel_rfl) (by kernel_rfl) (fun _ _ _ h => h) (Or.inl ⟨by kernel_rfl, ?_⟩) (by assumption) ?_
        rotate_left
        · (intro w hSw; (try dsimp only at hSw); go_simp; all_goals with_reducible rfl)
        try simp only [Act.put, List.setIfInBounds_toArray, List.set_cons_zero, List.set_cons_succ]
        refine wpAnyZ_take (i := 9) (oi := ⟨some 47, _, _, _, _, _⟩) (v := ?_) (by kernel_rfl) (by kernel_rfl) rfl rfl (by kernel_rfl) (by kernel_rfl) (by kernel_rfl) (fun _ _ _ h => h) (Or.inl ⟨by kernel_rfl, ?_⟩) (by assumption) ?_
        rotate_left
        · (intro w hSw; (try dsimp only at hSw); go_simp; all_goals with_reducible rfl)
        try simp only [Act.put, List.setIfInBounds_toArray, List.set_cons_zero, List.set_cons_succ]
        refine wpAnyZ_take (i := 10) (oi := ⟨some 48, _, _, _, _, _⟩) (v := ?_) (by kernel_rfl) (by kernel_rfl) rfl rfl (by kernel_rfl) (by kernel_rfl) (by kernel_rfl) (fun _ _ _ h => h) (Or.inl ⟨by kernel_rfl, ?_⟩) (by assumption) ?_
        rotate_left
        · (intro w hSw; (try dsimp only at hSw); go_simp; all_goals with_reducible rfl)
        try simp only [Act.put, List.setIfInBounds_toArray, List.set_cons_zero, List.set_cons_succ]
        refine wpAnyZ_take (i := 11) (oi := ⟨some 49, _, _, _, _, _⟩) (v := ?_) (by kernel_rfl) (by kernel_rfl) rfl rfl (by kernel_rfl) (by kernel_rfl) (by kernel_rfl) (fun _ _ _ h => h) (Or.inl ⟨by kernel_rfl, ?_⟩) (by assumption) ?_
        rotate_left
        · (intro w hSw; (try dsimp only at hSw); go_simp; all_goals with_reducible rfl)
        try simp only [Act.put, List.setIfInBounds_toArray, List.set_cons_zero, List.set_cons_succ]
        refine wpAnyZ_take (i := 12) (oi := ⟨some 50, _, _, _, _, _⟩) (v := ?_) (by kernel_rfl) (by kernel_rfl) rfl rfl (by kernel_rfl) (by kernel_rfl) (by kernel_rfl) (fun _ _ _ h => h) (Or.inl ⟨by kernel_rfl, ?_⟩) (by assumption) ?_
        rotate_left
        · (intro w hSw; (try dsimp only at hSw); go_simp; all_goals with_reducible rfl)
        try simp only [Act.put, List.setIfInBounds_toArray, List.set_cons_zero, List.set_cons_succ]
        refine wpAnyZ_take (i := 13) (oi := ⟨some 51, _, _, _, _, _⟩) (v := ?_) (by kernel_rfl) (by kernel_rfl) rfl rfl (by kernel_rfl) (by kernel_rfl) (by kernel_rfl) (fun _ _ _ h => h) (Or.inl ⟨by kernel_rfl, ?_⟩) (by assumption) ?_
        rotate_left
        · (intro w hSw; (try dsimp only at hSw); go_simp; all_goals with_reducible rfl)
        try simp only [Act.put, List.setIfInBounds_toArray, List.set_cons_zero, List.set_cons_succ]
        refine wpAnyZ_take (i := 14) (oi := ⟨some 52, _, _, _, _, _⟩) (v := ?_) (by kernel_rfl) (by kernel_rfl) rfl rfl (by kernel_rfl) (by kernel_rfl) (by kernel_rfl) (fun _ _ _ h => h) (Or.inl ⟨by kernel_rfl, ?_⟩) (by assumption) ?_
        rotate_left
        · (intro w hSw; (try dsimp only at hSw); go_simp; all_goals with_reducible rfl)
        try simp only [Act.put, List.setIfInBounds_toArray, List.set_cons_zero, List.set_cons_succ]
        refine wpAnyZ_take (i := 15) (oi := ⟨some 53, _, _, _, _, _⟩) (v := ?_) (by kernel_rfl) (by kernel_rfl) rfl rfl (by kernel_rfl) (by kernel_rfl) (by kernel_rfl) (fun _ _ _ h => h) (Or.inl ⟨by kernel_rfl, ?_⟩) (by assumption) ?_
        rotate_left
        · (intro w hSw; (try dsimp only at hSw); go_simp; all_goals with_reducible rfl)
        try simp only [Act.put, List.setIfInBounds_toArray, List.set_cons_zero, List.set_cons_succ]
        refine wpAnyZ_take (i := 16) (oi := ⟨some 54, _, _, _, _, _⟩) (v := ?_) (by kernel_rfl) (by kernel_rfl) rfl rfl (by kernel_rfl) (by kernel_rfl) (by kernel_rfl) (fun _ _ _ h => h) (Or.inl ⟨by kernel_rfl, ?_⟩) (by assumption) ?_
        rotate_left
        · (intro w hSw; (try dsimp only at hSw); go_simp; all_goals with_reducible rfl)
        try simp only [Act.put, List.setIfInBounds_toArray, List.set_cons_zero, List.set_cons_succ]
        refine wpAnyZ_take (i := 17) (oi := ⟨some 55, _, _, _, _, _⟩) (v := ?_) (by kernel_rfl) (by kernel_rfl) rfl rfl (by kernel_rfl) (by kernel_rfl) (by kernel_rfl) (fun _ _ _ h => h) (Or.inl ⟨by kernel_rfl, ?_⟩) (by assumption) ?_
        rotate_left
        · (intro w hSw; (try dsimp only at hSw); go_simp; all_goals with_reducible rfl)
        try simp only [Act.put, List.setIfInBounds_toArray, List.set_cons_zero, List.set_cons_succ]
        refine wpAnyZ_take (i := 18) (oi := ⟨some 56, _, _, _, _, _⟩) (v := ?_) (by kernel_rfl) (by kernel_rfl) rfl rfl (by kernel_rfl) (by kernel_rfl) (by kernel_rfl) (fun _ _ _ h => h) (Or.inl ⟨by kernel_rfl, ?_⟩) (by assumption) ?_
        rotate_left
        · (intro w hSw; (try dsimp only at hSw); go_simp; all_goals with_reducible rfl)
        try simp only [Act.put, List.setIfInBounds_toArray, List.set_cons_zero, List.set_cons_succ]
        refine wpAnyZ_take (i := 19) (oi := ⟨some 57, _, _, _, _, _⟩) (v := ?_) (by kernel_rfl) (by kernel_rfl) rfl rfl (by kernel_rfl) (by kernel_rfl) (by kernel_rfl) (fun _ _ _ h => h) (Or.inl ⟨by kernel_rfl, ?_⟩) (by assumption) ?_
        rotate_left
        · (intro w hSw; (try dsimp only at hSw); go_simp; all_goals with_reducible rfl)
        try simp only [Act.put, List.setIfInBounds_toArray, List.set_cons_zero, List.set_cons_succ]
        refine wpAnyZ_call (q := 20) (by kernel_rfl) rfl rfl (fun K hK => ?_)
        go_simp
        refine (HC1.out _).mono ?_
        rintro e v1 ⟨rfl, hb1⟩
        have zs1 := hb1.size
        try simp at zs1
        have y0 : v1.cell? ⟨w.heap.size + 1, 0, none⟩ = some (.int .i64 N0) := by rw [(bcell hb1).1 _ _ (by first | (simp; done) | (simp; omega) | omega)]; simp [go_sem, World.cell?_alloc_past, *]
        have y1 : v1.cell? ⟨w.heap.size + 1, 1, none⟩ = some (.int .i64 hi) := by rw [(bcell hb1).1 _ _ (by first | (simp; done) | (simp; omega) | omega)]; simp [go_sem, World.cell?_alloc_past, *]
        have y2 : v1.cell? ⟨w.heap.size, 0, none⟩ = some (.int .i64 0) := by rw [(bcell hb1).1 _ _ (by first | (simp; done) | (simp; omega) | omega)]; simp [go_sem, World.cell?_alloc_past, *]
        have y3 : v1.cell? ⟨w.heap.size, 1, none⟩ = some (.int .i64 0) := by rw [(bcell hb1).1 _ _ (by first | (simp; done) | (simp; omega) | omega)]; simp [go_sem, World.cell?_alloc_past, *]
        have y4 : v1.cell? ⟨pb, po + k * 4, none⟩ = some (.int .i64 n) := by rw [(bcell hb1).1 _ _ (by first | (simp; done) | (simp; omega) | omega)]; simp [go_sem, World.cell?_alloc_past, *]
        have y5 : v1.cell? ⟨pb, po + k * 4 + 1, none⟩ = some (.int .i64 hz) := by rw [(bcell hb1).1 _ _ (by first | (simp; done) | (simp; omega) | omega)]; simp [go_sem, World.cell?_alloc_past, *]
        have y6 : v1.cell? ⟨pb, po + k * 4 + 2, none⟩ = some (.int .i64 b) := by rw [(bcell hb1).1 _ _ (by first | (simp; done) | (simp; omega) | omega)]; simp [go_sem, World.cell?_alloc_past, *]
        have y7 : v1.cell? ⟨pb, po + k * 4 + 3, none⟩ = some (.int .i64 s) := by rw [(bcell hb1).1 _ _ (by first | (simp; done) | (simp; omega) | omega)]; simp [go_sem, World.cell?_alloc_past, *]
        have y8 : v1.cell? ⟨lb, lo' + k * 4, none⟩ = some (.int .i64 la) := by rw [(bcell hb1).1 _ _ (by first | (simp; done) | (simp; omega) | omega)]; simp [go_sem, World.cell?_alloc_past, *]
        have y9 : v1.cell? ⟨lb, lo' + k * 4 + 1, none⟩ = some (.int .i64 lb') := by rw [(bcell hb1).1 _ _ (by first | (simp; done) | (simp; omega) | omega)]; simp [go_sem, World.cell?_alloc_past, *]
        have y10 : v1.cell? ⟨lb, lo' + k * 4 + 2, none⟩ = some (.int .i64 lc) := by rw [(bcell hb1).1 _ _ (by first | (simp; done) | (simp; omega) | omega)]; simp [go_sem, World.cell?_alloc_past, *]
        have y11 : v1.cell? ⟨lb, lo' + k * 4 + 3, none⟩ = some (.int .i64 ld') := by rw [(bcell hb1).1 _ _ (by first | (simp; done) | (simp; omega) | omega)]; simp [go_sem, World.cell?_alloc_past, *]
        have yf : ∀ j, v1.frozen? ⟨w.heap.size + 1, j, none⟩ = false := fun j => by rw [(bcell hb1).2 _ _ (by first | (simp; done) | (simp; omega) | omega)]; simp [go_sem, *]
        have yg : ∀ j, v1.frozen? ⟨w.heap.size, j, none⟩ = false := fun j => by rw [(bcell hb1).2 _ _ (by first | (simp; done) | (simp; omega) | omega)]; simp [go_sem, *]
        have l1 : w.heap.size + 1 < v1.heap.size := by omega
        have l2 : w.heap.size < v1.heap.size := by omega
        have l3 : pb < v1.heap.size := by omega
        have l4 : lb < v1.heap.size := by omega
        have hB1 : Below w.heap.size w v1 := (by (repeat (first | (with_reducible refine Below.drew ?_) | (with_reducible refine below_drewN ?_ _) | (with_reducible refine Below.alloc ?_ (by first | omega | (simp; done) | (simp; omega) | (simp at *; omega)) _) | (with_reducible refine Below.setCell ?_ (by first | omega | (simp; done) | (simp; omega) | (simp at *; omega)) _) | (with_reducible exact Below.refl _ _) | (with_reducible assumption) | (with_reducible refine Below.trans ?_ (Below.mono (by assumption) (by first | omega | (simp; done) | (simp; omega) | (simp at *; omega)))))))
        clear hb1 u0 u1 u2 u3 u4 u5 u6 u7 u8 u9 u10 u11 uf ug uB
        go_wp2_with fail
        refine hK.out _ _ (by simp [go_sem, World.cell?_alloc_past, *]) (fun hHeld => ?_)
        clear hK K
        try simp only [Act.put, List.setIfInBounds_toArray, List.set_cons_zero, List.set_cons_succ]
        refine wpAnyZ_call (q := 21) (by kernel_rfl) rfl rfl (fun K hK => ?_)
        go_simp
        go_wp2_with fail
        refine hK.out _ _ (by simp [go_sem, World.cell?_alloc_past, *]) (fun hHeld => ?_)
        clear hK K
        try simp only [Act.put, List.setIfInBounds_toArray, List.set_cons_zero, List.set_cons_succ]
        refine wpAnyZ_take (i := 22) (oi := ⟨some 60, _, _, _, _, _⟩) (v := ?_) (by kernel_rfl) (by kernel_rfl) rfl rfl (by kernel_rfl) (by kernel_rfl) (by kernel_rfl) (fun _ _ _ h => h) (Or.inl ⟨by kernel_rfl, ?_⟩) (by assumption) ?_
        rotate_left
        · (intro w hSw; (try dsimp only at hSw); go_simp; all_goals with_reducible rfl)
        try simp only [Act.put, List.setIfInBounds_toArray, List.set_cons_zero, List.set_cons_succ]
        refine wpAnyZ_last (by kernel_rfl) rfl (fun K hK => ?_)
        go_simp
        go_wp2_with fail
        refine hK.out _ _ ?_
        clear hK K
        try simp only [Act.put, List.setIfInBounds_toArray, List.set_cons_zero, List.set_cons_succ]
        go_wp2
        go_roundw
        case rel => exact ⟨k + 1, N0, max hi M1, by omega, by go_num, HST.out.symm, by simp [go_sem, World.cell?_alloc_past, *], by rw [hmx]; simp [go_sem, World.cell?_alloc_past, *], by intro j; simp [go_sem, *], by simp [go_sem, World.cell?_alloc_past, *], by simp [go_sem, World.cell?_alloc_past, *], by intro j; simp [go_sem, *], by first | omega | (simp; omega), (by (repeat (first | (with_reducible refine Below.drew ?_) | (with_reducible refine below_drewN ?_ _) | (with_reducible refine Below.alloc ?_ (by first | omega | (simp; done) | (simp; omega) | (simp at *; omega)) _) | (with_reducible refine Below.setCell ?_ (by first | omega | (simp; done) | (simp; omega) | (simp at *; omega)) _) | (with_reducible exact Below.refl _ _) | (with_reducible assumption) | (with_reducible refine Below.trans ?_ (Below.mono (by assumption) (by first | omega | (simp; done) | (simp; omega) | (simp at *; omega)))))))⟩
        case measure => (simp [intOf]) <;> omega
    · have hkl2 : ¬ (k : Int) < T.length := by omega
      have HN : Hid (EL = lo ∧ EH = hi) := by
        have := hx.out
        rw [ceilR_end (by omega)] at this
        simp only [Prod.mk.injEq] at this
        exact ⟨this.1.symm, this.2.symm⟩
      go_wp2
      refine bodyPost_ret (v := .agg #[.int .i64 lo, .int .i64 hi]) (by simp [results, Try.results53, go_sem, World.cell?_alloc_past, *]) rfl ⟨by rw [HN.out.1, HN.out.2], ?_⟩
      (repeat (first | (with_reducible refine Below.drew ?_) | (with_reducible refine below_drewN ?_ _) | (with_reducible refine Below.alloc ?_ (by first | omega | (simp; done) | (simp; omega) | (simp at *; omega)) _) | (with_reducible refine Below.setCell ?_ (by first | omega | (simp; done) | (simp; omega) | (simp at *; omega)) _) | (with_reducible exact Below.refl _ _) | (with_reducible assumption) | (with_reducible refine Below.trans ?_ (Below.mono (by assumption) (by first | omega | (simp; done) | (simp; omega) | (simp at *; omega))))))
end Go.Proofs.Ytchfhhmmjioajaa
