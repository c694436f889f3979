/- The walk of shotlinetop.TopDepthsAgree: it returns true. -/
import Derived.Test.YtebieflnlmdllabMixed
import Derived.Test.YtebieflnlmdllabEquiv
import Derived.Test.YtebieflnlmdllabRichest
import Derived.Test.YtebieflnlmdllabGap2
import Derived.Test.YtebieflnlmdllabRefA
import Derived.Outline
namespace Go.Proofs.Ytebieflnlmdllab
open Go.ChangeShapes Go.WideShapes Go.ChangeAt Go.RowKit
set_option linter.unusedVariables false
set_option linter.unusedSimpArgs false
attribute [local go_sem ↓] Go.wp_at_zero Go.wp_at_succ

def exQ : List Part := [⟨1000, 0, 1000⟩, ⟨210, 0, 3000⟩]
theorem Mixed_exQ (b : Nat) (w : World) (hlt : b < w.heap.size) (h0 : w.cell? ⟨b, 0, none⟩ = some (.int .i64 1000)) (h1 : w.cell? ⟨b, 1, none⟩ = some (.int .i64 0)) (h2 : w.cell? ⟨b, 2, none⟩ = some (.int .i64 1000)) (h3 : w.cell? ⟨b, 3, none⟩ = some (.int .i64 210)) (h4 : w.cell? ⟨b, 4, none⟩ = some (.int .i64 0)) (h5 : w.cell? ⟨b, 5, none⟩ = some (.int .i64 3000)) :
    Calls Try.prog 13 #[.slice (some ⟨b, 0, none⟩) 2 2] w fun e w' => e = .returned (.tuple #[.agg #[.int .i64 163, .int .i64 400, .int .i64 0, .int .i64 1, .int .i64 237, .int .i64 400], .int .i64 0]) ∧ Below w.heap.size w w' := by
  have hP : PartsAt w b 0 exQ := by
    intro k hk
    have hk2 : k = 0 ∨ k = 1 := by simp [exQ] at hk; omega
    rcases hk2 with rfl | rfl
    · exact ⟨h0, h1, h2⟩
    · exact ⟨h3, h4, h5⟩
  have h := Mixed_any exQ b 0 2 w (by decide) hlt hP
  rw [show mixE exQ = 0 by decide +kernel, show mixR exQ 0 = 163 by decide +kernel, show mixR exQ 1 = 400 by decide +kernel, show mixR exQ 2 = 0 by decide +kernel, show mixR exQ 3 = 1 by decide +kernel, show mixR exQ 4 = 237 by decide +kernel, show mixR exQ 5 = 400 by decide +kernel] at h
  exact h
set_option maxHeartbeats 1000000 in
theorem breathing_any (w : World) :
    Calls Try.prog 4 #[] w fun e w' => e = .returned (.bool true) ∧ Below w.heap.size w w' := by
  go_enter Try.func4, Try.ntmps4
  go_wp2_with fail
  refine (Mixed_exQ _ _ (by simp) (by simp [go_sem]) (by simp [go_sem]) (by simp [go_sem]) (by simp [go_sem]) (by simp [go_sem]) (by simp [go_sem])).mono ?_
  rintro e w1 ⟨rfl, hbw1⟩
  have z1 := hbw1.size
  try simp at z1
  have hB1 : Below w.heap.size w w1 := (by (repeat (first | (with_reducible refine Below.drew ?_) | (with_reducible refine below_drewN ?_ _) | (with_reducible refine Below.alloc ?_ (by first | omega | (simp; done) | (simp; omega) | (simp at *; omega)) _) | (with_reducible refine Below.setCell ?_ (by first | omega | (simp; done) | (simp; omega) | (simp at *; omega)) _) | (with_reducible exact Below.refl _ _) | (with_reducible assumption) | (with_reducible refine Below.trans ?_ (Below.mono (by assumption) (by first | omega | (simp; done) | (simp; omega) | (simp at *; omega)))))))
  have b1 : w.heap.size ≤ w1.heap.size := by omega
  clear hbw1
  go_wp2
  go_ret
  exact ⟨by rfl, (by (repeat (first | (with_reducible refine Below.drew ?_) | (with_reducible refine below_drewN ?_ _) | (with_reducible refine Below.alloc ?_ (by first | omega | (simp; done) | (simp; omega) | (simp at *; omega)) _) | (with_reducible refine Below.setCell ?_ (by first | omega | (simp; done) | (simp; omega) | (simp at *; omega)) _) | (with_reducible exact Below.refl _ _) | (with_reducible assumption) | (with_reducible refine Below.trans ?_ (Below.mono (by assumption) (by first | omega | (simp; done) | (simp; omega) | (simp at *; omega)))))))⟩
theorem t_ceil_le {n o p : Int} (h : 0 < o) : (n + o - 1) / o ≤ p ↔ n ≤ o * p := by
  have h1 := Int.ediv_lt_iff_lt_mul h (a := n + o - 1) (b := p + 1)
  rw [Int.add_mul, Int.mul_comm p o] at h1
  omega
theorem t_le_floor {n o p : Int} (h : 0 < o) : p ≤ n / o ↔ o * p ≤ n := by
  rw [Int.le_ediv_iff_mul_le h, Int.mul_comm p o]
theorem t_edges {o s d a b : Int} (k1 : 1 ≤ o) (k5 : 0 ≤ d) (k6 : d ≤ 30000) : inB (o * (s + d)) (1000 * a) (1000 * b) = inB d (depLo o s a) (depHi o s b) := by
  have h1 := t_ceil_le (n := 1000 * a) (o := o) (p := s + d) (by omega)
  have h2 := t_le_floor (n := 1000 * b) (o := o) (p := s + d) (by omega)
  rw [Bool.eq_iff_iff, inB_iff, inB_iff]
  unfold depLo depHi
  split <;> split <;> omega
theorem BestGas_bad (s d a b n c : Int) (w : World) (hc : Hid (aimE s d a b n = c)) (hn : c ≠ 0) :
    Calls Try.prog 6 #[.agg #[.int .i64 s, .int .i64 d, .int .i64 a, .int .i64 b, .int .i64 n]] w fun e w' => e = .returned (.tuple #[.agg #[.int .i64 0, .int .i64 0], .int .i64 c]) ∧ Below w.heap.size w w' := by
  have := BestGas_t1 s d a b n w (by rw [hc.out]; simpa using hn)
  rw [hc.out] at this
  exact this
theorem BestGas_m (s d a b n x y : Int) (w : World) (hc : Hid (aimE s d a b n = 0)) (m : Bool) (HM : Hid (metB (bestOx s (s + d) n b) (bestHe s (s + d) n) s a b n (s + d) = m)) (hx : Hid ((if m = true then bestOx s (s + d) n b else 0) = x)) (hy : Hid ((if m = true then bestHe s (s + d) n else 0) = y)) :
    Calls Try.prog 6 #[.agg #[.int .i64 s, .int .i64 d, .int .i64 a, .int .i64 b, .int .i64 n]] w fun e w' => e = .returned (.tuple #[.agg #[.int .i64 x, .int .i64 y], .int .i64 (if m = true then 0 else 12)]) ∧ Below w.heap.size w w' := by
  have := BestGas_t2 s d a b n w (by rw [hc.out]; rfl) m HM
  rw [hx.out, hy.out] at this
  exact this
theorem BestGas_n (s d a b n : Int) (w : World) (hc : Hid (aimE s d a b n = 0)) (HM : Hid (metB (bestOx s (s + d) n b) (bestHe s (s + d) n) s a b n (s + d) = false)) :
    Calls Try.prog 6 #[.agg #[.int .i64 s, .int .i64 d, .int .i64 a, .int .i64 b, .int .i64 n]] w fun e w' => e = .returned (.tuple #[.agg #[.int .i64 0, .int .i64 0], .int .i64 12]) ∧ Below w.heap.size w w' :=
  BestGas_m s d a b n 0 0 w hc false HM rfl rfl
theorem refCheckAim_is (s d a b n c : Int) (w : World) (hc : Hid (aimE s d a b n = c)) :
    Calls Try.prog 5 #[.agg #[.int .i64 s, .int .i64 d, .int .i64 a, .int .i64 b, .int .i64 n]] w fun e w' => e = .returned (.int .i64 c) ∧ Below w.heap.size w w' := by
  have := refCheckAim_any s d a b n w
  rw [hc.out] at this
  exact this
theorem refCheckGas_c (o h c : Int) (w : World) (hc : Hid (gasE o h = c)) :
    Calls Try.prog 7 #[.agg #[.int .i64 o, .int .i64 h]] w fun e w' => e = .returned (.int .i64 c) ∧ w.alloc (.cells #[.int .i64 o, .int .i64 h] 29) = w' := by
  have := refCheckGas_any o h w
  rw [hc.out] at this
  exact this
theorem Narc_is (o h s d X C D : Int) (w : World) (hb : (eqE o h s d != 0) = false) (k1 : 0 ≤ o) (k2 : o ≤ 1000) (k3 : 0 ≤ h) (k4 : h ≤ 1000) (k7 : o + h ≤ 1000) (k5 : 400 ≤ s) (k6 : s ≤ 1100) (k8 : 0 ≤ d) (k9 : d ≤ 30000) (hX : Hid ((1000 - h) * (s + d) = X)) (x1 : 0 ≤ X) (x2 : X ≤ 40000000) (hC : Hid (above (X / 1000) s = C)) (hD : Hid (above ((X + 1000 - 1) / 1000) s = D)) :
    Calls Try.prog 9 #[.agg #[.int .i64 o, .int .i64 h], .int .i64 s, .int .i64 d] w fun e w' => e = .returned (.tuple #[.agg #[.int .i64 C, .int .i64 D], .int .i64 0]) ∧ Below w.heap.size w w' := by
  have := EquivalentNarcotic_ok o h s d X w hb k1 k2 k3 k4 k7 k5 k6 k8 k9 hX x1 x2
  rw [hC.out, hD.out] at this
  exact this
theorem gap1 (x y s a b d : Int) (bk : Nat) (w : World) (h0 : w.cell? ⟨bk, 0, none⟩ = some (.int .i64 x)) (h1 : w.cell? ⟨bk, 1, none⟩ = some (.int .i64 y)) (hE : Hid (gapE [⟨x, y⟩] s a b d d = 0)) (hb : Hid (brB ⟨x, y⟩ s a b d = true)) :
    Calls Try.prog 11 #[.slice (some ⟨bk, 0, none⟩) 1 1, .int .i64 s, .agg #[.int .i64 a, .int .i64 b], .agg #[.int .i64 d, .int .i64 d]] w fun e w' => e = .returned (.tuple #[.int .i64 0, .int .i64 12]) ∧ Below w.heap.size w w' := by
  have hl := World.block_lt_of_cell? _ _ h0
  have hl2 : bk < w.heap.size := by simpa using hl
  have hN : NoGap [⟨x, y⟩] s a b d d := fun z z1 z2 => by
    obtain rfl : z = d := by omega
    exact ⟨0, by simp, hb.out⟩
  refine (FirstGap_any [⟨x, y⟩] (some ⟨bk, 0, none⟩) 1 s a b d d w (by simp) (Or.inr ⟨bk, 0, rfl, hl2, by
    intro k hk
    obtain rfl : k = 0 := by simp at hk; omega
    exact ⟨by simpa using h0, by simpa using h1⟩⟩)).mono fun e w' ⟨h, hB⟩ => ⟨?_, hB⟩
  rcases h with ⟨h0, _⟩ | ⟨_, x, hx, h⟩ | ⟨_, h0, h⟩
  · exact absurd hE.out h0
  · exact (hx.no hN).elim
  · exact h
theorem rch2 (x y s d a b n : Int) (hg : gasE x y = 0) (hc : aimE s d a b n = 0) (hm : metB x y s a b n (s + d) = true) :
    rchOut [⟨0, 1000⟩, ⟨x, y⟩] s d a b n = 1 ∧ rchErr [⟨0, 1000⟩, ⟨x, y⟩] s d a b n = 0 := by
  obtain ⟨⟨k1, k2⟩, ⟨k9, k10⟩, ⟨k5, k6, k7, k8, _⟩, k3, k4⟩ := aimE_z hc
  have h0 : metB 0 1000 s a b n (s + d) = false := by
    unfold metB
    rw [show inB (0 * (s + d)) (1000 * a) (1000 * b) = false by apply inB_not.2; rw [Int.zero_mul]; omega]
    rfl
  have h1 : rchE [⟨0, 1000⟩, ⟨x, y⟩] s d a b n = 0 := by
    unfold rchE gasesE
    simp [gasesE1, hg, hc, firE, show gasE 0 1000 = 0 by decide]
  have h2 : rchV [⟨0, 1000⟩, ⟨x, y⟩] s d a b n = 1 := by
    unfold rchV
    have e1 : richTo (rchM s d a b n) [⟨0, 1000⟩, ⟨x, y⟩] 1 = -1 := rs_f (P := [⟨0, 1000⟩, ⟨x, y⟩]) (k := 0) (by simp) h0
    exact rs_n (P := [⟨0, 1000⟩, ⟨x, y⟩]) (k := 1) (by simp) hm (by rw [e1]; decide)
  unfold rchOut rchErr
  rw [if_pos h1, if_pos h1, h2]
  decide
theorem Rich2 (x y s d a b n : Int) (bk : Nat) (w : World) (q0 : w.cell? ⟨bk, 0, none⟩ = some (.int .i64 0)) (q1 : w.cell? ⟨bk, 1, none⟩ = some (.int .i64 1000)) (q2 : w.cell? ⟨bk, 2, none⟩ = some (.int .i64 x)) (q3 : w.cell? ⟨bk, 3, none⟩ = some (.int .i64 y)) (hg : Hid (gasE x y = 0)) (hc : Hid (aimE s d a b n = 0)) (hm : Hid (metB x y s a b n (s + d) = true)) :
    Calls Try.prog 12 #[.slice (some ⟨bk, 0, none⟩) 2 2, .agg #[.int .i64 s, .int .i64 d, .int .i64 a, .int .i64 b, .int .i64 n]] w fun e w' => e = .returned (.tuple #[.int .i64 1, .int .i64 0]) ∧ Below w.heap.size w w' := by
  have hl := World.block_lt_of_cell? _ _ q0
  have hl2 : bk < w.heap.size := by simpa using hl
  have := Richest_any [⟨0, 1000⟩, ⟨x, y⟩] (some ⟨bk, 0, none⟩) 2 s d a b n w (by simp) (Or.inr ⟨bk, 0, rfl, hl2, by
    intro k hk
    have hk2 : k = 0 ∨ k = 1 := by simp at hk; omega
    rcases hk2 with rfl | rfl
    · exact ⟨by simpa using q0, by simpa using q1⟩
    · exact ⟨by simpa using q2, by simpa using q3⟩⟩)
  obtain ⟨e1, e2⟩ := rch2 x y s d a b n hg.out hc.out hm.out
  rw [e1, e2] at this
  exact this
theorem DepthsFor_w (o h s a b x y c : Int) (w : World) (hx : Hid (depL o h s a b = x)) (hy : Hid (depH o h s a b = y)) (hc : Hid (depE o h s a b = c)) :
    Calls Try.prog 8 #[.agg #[.int .i64 o, .int .i64 h], .int .i64 s, .agg #[.int .i64 a, .int .i64 b]] w fun e w' => e = .returned (.tuple #[.agg #[.int .i64 x, .int .i64 y], .int .i64 c]) ∧ Below w.heap.size w w' := by
  have := DepthsFor_any o h s a b w
  rw [hx.out, hy.out, hc.out] at this
  exact this
set_option maxRecDepth 100000 in
set_option maxHeartbeats 4000000 in
theorem tdlaw_b (s d a b n : Int) (w : World) (c : Int) (hc : Hid (aimE s d a b n = c)) (hn : (c != 0) = true) :
    Calls Try.prog 3 #[.agg #[.int .i64 s, .int .i64 d, .int .i64 a, .int .i64 b, .int .i64 n]] w fun e w' => e = .returned (.bool true) ∧ Below w.heap.size w w' := by
  go_enter Try.func3, Try.ntmps3
  go_wp2_with fail
  refine (breathing_any _).mono ?_
  rintro e w1 ⟨rfl, hbw1⟩
  have z1 := hbw1.size
  try simp at z1
  have c1_0 : w1.cell? ⟨w.heap.size, 0, none⟩ = some (.int .i64 s) := by rw [(bcell hbw1).1 _ _ (by first | (simp; done) | (simp; omega) | omega)]; simp [go_sem, World.cell?_alloc_past, *]
  have c1_1 : w1.cell? ⟨w.heap.size, 1, none⟩ = some (.int .i64 d) := by rw [(bcell hbw1).1 _ _ (by first | (simp; done) | (simp; omega) | omega)]; simp [go_sem, World.cell?_alloc_past, *]
  have c1_2 : w1.cell? ⟨w.heap.size, 2, none⟩ = some (.int .i64 a) := by rw [(bcell hbw1).1 _ _ (by first | (simp; done) | (simp; omega) | omega)]; simp [go_sem, World.cell?_alloc_past, *]
  have c1_3 : w1.cell? ⟨w.heap.size, 3, none⟩ = some (.int .i64 b) := by rw [(bcell hbw1).1 _ _ (by first | (simp; done) | (simp; omega) | omega)]; simp [go_sem, World.cell?_alloc_past, *]
  have c1_4 : w1.cell? ⟨w.heap.size, 4, none⟩ = some (.int .i64 n) := by rw [(bcell hbw1).1 _ _ (by first | (simp; done) | (simp; omega) | omega)]; simp [go_sem, World.cell?_alloc_past, *]
  have hB1 : Below w.heap.size w w1 := (by (repeat (first | (with_reducible refine Below.drew ?_) | (with_reducible refine below_drewN ?_ _) | (with_reducible refine Below.alloc ?_ (by first | omega | (simp; done) | (simp; omega) | (simp at *; omega)) _) | (with_reducible refine Below.setCell ?_ (by first | omega | (simp; done) | (simp; omega) | (simp at *; omega)) _) | (with_reducible exact Below.refl _ _) | (with_reducible assumption) | (with_reducible refine Below.trans ?_ (Below.mono (by assumption) (by first | omega | (simp; done) | (simp; omega) | (simp at *; omega)))))))
  have o1_0 : w.heap.size < w1.heap.size := by omega
  have n1_0 : w1.heap.size ≠ w.heap.size := by omega
  have t1_0_1 : w.heap.size < w1.heap.size + 1 := by omega
  have t1_0_2 : w.heap.size < w1.heap.size + 1 + 1 := by omega
  have t1_0_3 : w.heap.size < w1.heap.size + 1 + 1 + 1 := by omega
  have t1_0_4 : w.heap.size < w1.heap.size + 1 + 1 + 1 + 1 := by omega
  have t1_0_5 : w.heap.size < w1.heap.size + 1 + 1 + 1 + 1 + 1 := by omega
  have t1_0_6 : w.heap.size < w1.heap.size + 1 + 1 + 1 + 1 + 1 + 1 := by omega
  have t1_0_7 : w.heap.size < w1.heap.size + 1 + 1 + 1 + 1 + 1 + 1 + 1 := by omega
  have b1 : w.heap.size ≤ w1.heap.size := by omega
  clear hbw1
  go_wp2_with fail
  refine (refCheckAim_is _ _ _ _ _ c _ hc).mono ?_
  rintro e w2 ⟨rfl, hbw2⟩
  have z2 := hbw2.size
  try simp at z2
  have c2_0 : w2.cell? ⟨w.heap.size, 0, none⟩ = some (.int .i64 s) := by rw [(bcell hbw2).1 _ _ (by first | (simp; done) | (simp; omega) | omega)]; simp [go_sem, World.cell?_alloc_past, *]
  have c2_1 : w2.cell? ⟨w.heap.size, 1, none⟩ = some (.int .i64 d) := by rw [(bcell hbw2).1 _ _ (by first | (simp; done) | (simp; omega) | omega)]; simp [go_sem, World.cell?_alloc_past, *]
  have c2_2 : w2.cell? ⟨w.heap.size, 2, none⟩ = some (.int .i64 a) := by rw [(bcell hbw2).1 _ _ (by first | (simp; done) | (simp; omega) | omega)]; simp [go_sem, World.cell?_alloc_past, *]
  have c2_3 : w2.cell? ⟨w.heap.size, 3, none⟩ = some (.int .i64 b) := by rw [(bcell hbw2).1 _ _ (by first | (simp; done) | (simp; omega) | omega)]; simp [go_sem, World.cell?_alloc_past, *]
  have c2_4 : w2.cell? ⟨w.heap.size, 4, none⟩ = some (.int .i64 n) := by rw [(bcell hbw2).1 _ _ (by first | (simp; done) | (simp; omega) | omega)]; simp [go_sem, World.cell?_alloc_past, *]
  have hB2 : Below w.heap.size w w2 := (by (repeat (first | (with_reducible refine Below.drew ?_) | (with_reducible refine below_drewN ?_ _) | (with_reducible refine Below.alloc ?_ (by first | omega | (simp; done) | (simp; omega) | (simp at *; omega)) _) | (with_reducible refine Below.setCell ?_ (by first | omega | (simp; done) | (simp; omega) | (simp at *; omega)) _) | (with_reducible exact Below.refl _ _) | (with_reducible assumption) | (with_reducible refine Below.trans ?_ (Below.mono (by assumption) (by first | omega | (simp; done) | (simp; omega) | (simp at *; omega)))))))
  clear c1_0 c1_1 c1_2 c1_3 c1_4 o1_0 n1_0 t1_0_1 t1_0_2 t1_0_3 t1_0_4 t1_0_5 t1_0_6 t1_0_7
  have o2_0 : w.heap.size < w2.heap.size := by omega
  have n2_0 : w2.heap.size ≠ w.heap.size := by omega
  have t2_0_1 : w.heap.size < w2.heap.size + 1 := by omega
  have t2_0_2 : w.heap.size < w2.heap.size + 1 + 1 := by omega
  have t2_0_3 : w.heap.size < w2.heap.size + 1 + 1 + 1 := by omega
  have t2_0_4 : w.heap.size < w2.heap.size + 1 + 1 + 1 + 1 := by omega
  have t2_0_5 : w.heap.size < w2.heap.size + 1 + 1 + 1 + 1 + 1 := by omega
  have t2_0_6 : w.heap.size < w2.heap.size + 1 + 1 + 1 + 1 + 1 + 1 := by omega
  have t2_0_7 : w.heap.size < w2.heap.size + 1 + 1 + 1 + 1 + 1 + 1 + 1 := by omega
  have b2 : w.heap.size ≤ w2.heap.size := by omega
  clear hbw2
  go_wp2
  go_ret
  exact ⟨rfl, (by (repeat (first | (with_reducible refine Below.drew ?_) | (with_reducible refine below_drewN ?_ _) | (with_reducible refine Below.alloc ?_ (by first | omega | (simp; done) | (simp; omega) | (simp at *; omega)) _) | (with_reducible refine Below.setCell ?_ (by first | omega | (simp; done) | (simp; omega) | (simp at *; omega)) _) | (with_reducible exact Below.refl _ _) | (with_reducible assumption) | (with_reducible refine Below.trans ?_ (Below.mono (by assumption) (by first | omega | (simp; done) | (simp; omega) | (simp at *; omega)))))))⟩
set_option maxRecDepth 100000 in
set_option maxHeartbeats 4000000 in
theorem tdlaw_n (s d a b n : Int) (w : World) (hc : Hid (aimE s d a b n = 0)) (HM : Hid (metB (bestOx s (s + d) n b) (bestHe s (s + d) n) s a b n (s + d) = false)) :
    Calls Try.prog 3 #[.agg #[.int .i64 s, .int .i64 d, .int .i64 a, .int .i64 b, .int .i64 n]] w fun e w' => e = .returned (.bool true) ∧ Below w.heap.size w w' := by
  go_enter Try.func3, Try.ntmps3
  go_wp2_with fail
  refine (breathing_any _).mono ?_
  rintro e w1 ⟨rfl, hbw1⟩
  have z1 := hbw1.size
  try simp at z1
  have c1_0 : w1.cell? ⟨w.heap.size, 0, none⟩ = some (.int .i64 s) := by rw [(bcell hbw1).1 _ _ (by first | (simp; done) | (simp; omega) | omega)]; simp [go_sem, World.cell?_alloc_past, *]
  have c1_1 : w1.cell? ⟨w.heap.size, 1, none⟩ = some (.int .i64 d) := by rw [(bcell hbw1).1 _ _ (by first | (simp; done) | (simp; omega) | omega)]; simp [go_sem, World.cell?_alloc_past, *]
  have c1_2 : w1.cell? ⟨w.heap.size, 2, none⟩ = some (.int .i64 a) := by rw [(bcell hbw1).1 _ _ (by first | (simp; done) | (simp; omega) | omega)]; simp [go_sem, World.cell?_alloc_past, *]
  have c1_3 : w1.cell? ⟨w.heap.size, 3, none⟩ = some (.int .i64 b) := by rw [(bcell hbw1).1 _ _ (by first | (simp; done) | (simp; omega) | omega)]; simp [go_sem, World.cell?_alloc_past, *]
  have c1_4 : w1.cell? ⟨w.heap.size, 4, none⟩ = some (.int .i64 n) := by rw [(bcell hbw1).1 _ _ (by first | (simp; done) | (simp; omega) | omega)]; simp [go_sem, World.cell?_alloc_past, *]
  have hB1 : Below w.heap.size w w1 := (by (repeat (first | (with_reducible refine Below.drew ?_) | (with_reducible refine below_drewN ?_ _) | (with_reducible refine Below.alloc ?_ (by first | omega | (simp; done) | (simp; omega) | (simp at *; omega)) _) | (with_reducible refine Below.setCell ?_ (by first | omega | (simp; done) | (simp; omega) | (simp at *; omega)) _) | (with_reducible exact Below.refl _ _) | (with_reducible assumption) | (with_reducible refine Below.trans ?_ (Below.mono (by assumption) (by first | omega | (simp; done) | (simp; omega) | (simp at *; omega)))))))
  have o1_0 : w.heap.size < w1.heap.size := by omega
  have n1_0 : w1.heap.size ≠ w.heap.size := by omega
  have t1_0_1 : w.heap.size < w1.heap.size + 1 := by omega
  have t1_0_2 : w.heap.size < w1.heap.size + 1 + 1 := by omega
  have t1_0_3 : w.heap.size < w1.heap.size + 1 + 1 + 1 := by omega
  have t1_0_4 : w.heap.size < w1.heap.size + 1 + 1 + 1 + 1 := by omega
  have t1_0_5 : w.heap.size < w1.heap.size + 1 + 1 + 1 + 1 + 1 := by omega
  have t1_0_6 : w.heap.size < w1.heap.size + 1 + 1 + 1 + 1 + 1 + 1 := by omega
  have t1_0_7 : w.heap.size < w1.heap.size + 1 + 1 + 1 + 1 + 1 + 1 + 1 := by omega
  have b1 : w.heap.size ≤ w1.heap.size := by omega
  clear hbw1
  go_wp2_with fail
  refine (refCheckAim_is _ _ _ _ _ 0 _ hc).mono ?_
  rintro e w2 ⟨rfl, hbw2⟩
  have z2 := hbw2.size
  try simp at z2
  have c2_0 : w2.cell? ⟨w.heap.size, 0, none⟩ = some (.int .i64 s) := by rw [(bcell hbw2).1 _ _ (by first | (simp; done) | (simp; omega) | omega)]; simp [go_sem, World.cell?_alloc_past, *]
  have c2_1 : w2.cell? ⟨w.heap.size, 1, none⟩ = some (.int .i64 d) := by rw [(bcell hbw2).1 _ _ (by first | (simp; done) | (simp; omega) | omega)]; simp [go_sem, World.cell?_alloc_past, *]
  have c2_2 : w2.cell? ⟨w.heap.size, 2, none⟩ = some (.int .i64 a) := by rw [(bcell hbw2).1 _ _ (by first | (simp; done) | (simp; omega) | omega)]; simp [go_sem, World.cell?_alloc_past, *]
  have c2_3 : w2.cell? ⟨w.heap.size, 3, none⟩ = some (.int .i64 b) := by rw [(bcell hbw2).1 _ _ (by first | (simp; done) | (simp; omega) | omega)]; simp [go_sem, World.cell?_alloc_past, *]
  have c2_4 : w2.cell? ⟨w.heap.size, 4, none⟩ = some (.int .i64 n) := by rw [(bcell hbw2).1 _ _ (by first | (simp; done) | (simp; omega) | omega)]; simp [go_sem, World.cell?_alloc_past, *]
  have hB2 : Below w.heap.size w w2 := (by (repeat (first | (with_reducible refine Below.drew ?_) | (with_reducible refine below_drewN ?_ _) | (with_reducible refine Below.alloc ?_ (by first | omega | (simp; done) | (simp; omega) | (simp at *; omega)) _) | (with_reducible refine Below.setCell ?_ (by first | omega | (simp; done) | (simp; omega) | (simp at *; omega)) _) | (with_reducible exact Below.refl _ _) | (with_reducible assumption) | (with_reducible refine Below.trans ?_ (Below.mono (by assumption) (by first | omega | (simp; done) | (simp; omega) | (simp at *; omega)))))))
  clear c1_0 c1_1 c1_2 c1_3 c1_4 o1_0 n1_0 t1_0_1 t1_0_2 t1_0_3 t1_0_4 t1_0_5 t1_0_6 t1_0_7
  have o2_0 : w.heap.size < w2.heap.size := by omega
  have n2_0 : w2.heap.size ≠ w.heap.size := by omega
  have t2_0_1 : w.heap.size < w2.heap.size + 1 := by omega
  have t2_0_2 : w.heap.size < w2.heap.size + 1 + 1 := by omega
  have t2_0_3 : w.heap.size < w2.heap.size + 1 + 1 + 1 := by omega
  have t2_0_4 : w.heap.size < w2.heap.size + 1 + 1 + 1 + 1 := by omega
  have t2_0_5 : w.heap.size < w2.heap.size + 1 + 1 + 1 + 1 + 1 := by omega
  have t2_0_6 : w.heap.size < w2.heap.size + 1 + 1 + 1 + 1 + 1 + 1 := by omega
  have t2_0_7 : w.heap.size < w2.heap.size + 1 + 1 + 1 + 1 + 1 + 1 + 1 := by omega
  have b2 : w.heap.size ≤ w2.heap.size := by omega
  clear hbw2
  go_wp2_with fail
  refine (BestGas_n _ _ _ _ _ _ hc HM).mono ?_
  rintro e w3 ⟨rfl, hbw3⟩
  have z3 := hbw3.size
  try simp at z3
  have c3_0 : w3.cell? ⟨w.heap.size, 0, none⟩ = some (.int .i64 s) := by rw [(bcell hbw3).1 _ _ (by first | (simp; done) | (simp; omega) | omega)]; simp [go_sem, World.cell?_alloc_past, *]
  have c3_1 : w3.cell? ⟨w.heap.size, 1, none⟩ = some (.int .i64 d) := by rw [(bcell hbw3).1 _ _ (by first | (simp; done) | (simp; omega) | omega)]; simp [go_sem, World.cell?_alloc_past, *]
  have c3_2 : w3.cell? ⟨w.heap.size, 2, none⟩ = some (.int .i64 a) := by rw [(bcell hbw3).1 _ _ (by first | (simp; done) | (simp; omega) | omega)]; simp [go_sem, World.cell?_alloc_past, *]
  have c3_3 : w3.cell? ⟨w.heap.size, 3, none⟩ = some (.int .i64 b) := by rw [(bcell hbw3).1 _ _ (by first | (simp; done) | (simp; omega) | omega)]; simp [go_sem, World.cell?_alloc_past, *]
  have c3_4 : w3.cell? ⟨w.heap.size, 4, none⟩ = some (.int .i64 n) := by rw [(bcell hbw3).1 _ _ (by first | (simp; done) | (simp; omega) | omega)]; simp [go_sem, World.cell?_alloc_past, *]
  have hB3 : Below w.heap.size w w3 := (by (repeat (first | (with_reducible refine Below.drew ?_) | (with_reducible refine below_drewN ?_ _) | (with_reducible refine Below.alloc ?_ (by first | omega | (simp; done) | (simp; omega) | (simp at *; omega)) _) | (with_reducible refine Below.setCell ?_ (by first | omega | (simp; done) | (simp; omega) | (simp at *; omega)) _) | (with_reducible exact Below.refl _ _) | (with_reducible assumption) | (with_reducible refine Below.trans ?_ (Below.mono (by assumption) (by first | omega | (simp; done) | (simp; omega) | (simp at *; omega)))))))
  clear c2_0 c2_1 c2_2 c2_3 c2_4 o2_0 n2_0 t2_0_1 t2_0_2 t2_0_3 t2_0_4 t2_0_5 t2_0_6 t2_0_7
  have o3_0 : w.heap.size < w3.heap.size := by omega
  have n3_0 : w3.heap.size ≠ w.heap.size := by omega
  have t3_0_1 : w.heap.size < w3.heap.size + 1 := by omega
  have t3_0_2 : w.heap.size < w3.heap.size + 1 + 1 := by omega
  have t3_0_3 : w.heap.size < w3.heap.size + 1 + 1 + 1 := by omega
  have t3_0_4 : w.heap.size < w3.heap.size + 1 + 1 + 1 + 1 := by omega
  have t3_0_5 : w.heap.size < w3.heap.size + 1 + 1 + 1 + 1 + 1 := by omega
  have t3_0_6 : w.heap.size < w3.heap.size + 1 + 1 + 1 + 1 + 1 + 1 := by omega
  have t3_0_7 : w.heap.size < w3.heap.size + 1 + 1 + 1 + 1 + 1 + 1 + 1 := by omega
  have b3 : w.heap.size ≤ w3.heap.size := by omega
  clear hbw3
  go_wp2
  go_ret
  exact ⟨rfl, (by (repeat (first | (with_reducible refine Below.drew ?_) | (with_reducible refine below_drewN ?_ _) | (with_reducible refine Below.alloc ?_ (by first | omega | (simp; done) | (simp; omega) | (simp at *; omega)) _) | (with_reducible refine Below.setCell ?_ (by first | omega | (simp; done) | (simp; omega) | (simp at *; omega)) _) | (with_reducible exact Below.refl _ _) | (with_reducible assumption) | (with_reducible refine Below.trans ?_ (Below.mono (by assumption) (by first | omega | (simp; done) | (simp; omega) | (simp at *; omega)))))))⟩
set_option maxRecDepth 100000 in
set_option maxHeartbeats 4000000 in
theorem tdlaw_k (s d a b n : Int) (w : World) (hc : Hid (aimE s d a b n = 0)) (X Y : Int) (HM : Hid (metB (bestOx s (s + d) n b) (bestHe s (s + d) n) s a b n (s + d) = true)) (hx : Hid ((if true = true then bestOx s (s + d) n b else 0) = X)) (hy : Hid ((if true = true then bestHe s (s + d) n else 0) = Y)) (hg : Hid (gasE X Y = 0)) (hXm : Hid (metB X Y s a b n (s + d) = true)) (L U : Int) (hL : Hid (depL X Y s a b = L)) (hU : Hid (depH X Y s a b = U)) (hD : Hid (depE X Y s a b = 0)) (l1 : L ≤ d) (l2 : d ≤ U) (Z N0 N1 : Int) (hZ : Hid ((1000 - Y) * (s + d) = Z)) (zz1 : 0 ≤ Z) (zz2 : Z ≤ 40000000) (hN0 : Hid (above (Z / 1000) s = N0)) (hN1 : Hid (above ((Z + 1000 - 1) / 1000) s = N1)) (n1 : N1 ≤ n) (heq : Hid ((eqE X Y s d != 0) = false)) (f1 : 0 ≤ X) (f2 : X ≤ 1000) (f3 : 0 ≤ Y) (f4 : Y ≤ 1000) (f5 : X + Y ≤ 1000) (k5 : 400 ≤ s) (k6 : s ≤ 1100) (k8 : 0 ≤ d) (k9 : d ≤ 30000) (hGE : Hid (gapE [⟨X, Y⟩] s a b d d = 0)) (hBr : Hid (brB ⟨X, Y⟩ s a b d = true)) :
    Calls Try.prog 3 #[.agg #[.int .i64 s, .int .i64 d, .int .i64 a, .int .i64 b, .int .i64 n]] w fun e w' => e = .returned (.bool true) ∧ Below w.heap.size w w' := by
  go_enter Try.func3, Try.ntmps3
  go_wp2_with fail
  refine (breathing_any _).mono ?_
  rintro e w1 ⟨rfl, hbw1⟩
  have z1 := hbw1.size
  try simp at z1
  have c1_0 : w1.cell? ⟨w.heap.size, 0, none⟩ = some (.int .i64 s) := by rw [(bcell hbw1).1 _ _ (by first | (simp; done) | (simp; omega) | omega)]; simp [go_sem, World.cell?_alloc_past, *]
  have c1_1 : w1.cell? ⟨w.heap.size, 1, none⟩ = some (.int .i64 d) := by rw [(bcell hbw1).1 _ _ (by first | (simp; done) | (simp; omega) | omega)]; simp [go_sem, World.cell?_alloc_past, *]
  have c1_2 : w1.cell? ⟨w.heap.size, 2, none⟩ = some (.int .i64 a) := by rw [(bcell hbw1).1 _ _ (by first | (simp; done) | (simp; omega) | omega)]; simp [go_sem, World.cell?_alloc_past, *]
  have c1_3 : w1.cell? ⟨w.heap.size, 3, none⟩ = some (.int .i64 b) := by rw [(bcell hbw1).1 _ _ (by first | (simp; done) | (simp; omega) | omega)]; simp [go_sem, World.cell?_alloc_past, *]
  have c1_4 : w1.cell? ⟨w.heap.size, 4, none⟩ = some (.int .i64 n) := by rw [(bcell hbw1).1 _ _ (by first | (simp; done) | (simp; omega) | omega)]; simp [go_sem, World.cell?_alloc_past, *]
  have hB1 : Below w.heap.size w w1 := (by (repeat (first | (with_reducible refine Below.drew ?_) | (with_reducible refine below_drewN ?_ _) | (with_reducible refine Below.alloc ?_ (by first | omega | (simp; done) | (simp; omega) | (simp at *; omega)) _) | (with_reducible refine Below.setCell ?_ (by first | omega | (simp; done) | (simp; omega) | (simp at *; omega)) _) | (with_reducible exact Below.refl _ _) | (with_reducible assumption) | (with_reducible refine Below.trans ?_ (Below.mono (by assumption) (by first | omega | (simp; done) | (simp; omega) | (simp at *; omega)))))))
  have o1_0 : w.heap.size < w1.heap.size := by omega
  have n1_0 : w1.heap.size ≠ w.heap.size := by omega
  have t1_0_1 : w.heap.size < w1.heap.size + 1 := by omega
  have t1_0_2 : w.heap.size < w1.heap.size + 1 + 1 := by omega
  have t1_0_3 : w.heap.size < w1.heap.size + 1 + 1 + 1 := by omega
  have t1_0_4 : w.heap.size < w1.heap.size + 1 + 1 + 1 + 1 := by omega
  have t1_0_5 : w.heap.size < w1.heap.size + 1 + 1 + 1 + 1 + 1 := by omega
  have t1_0_6 : w.heap.size < w1.heap.size + 1 + 1 + 1 + 1 + 1 + 1 := by omega
  have t1_0_7 : w.heap.size < w1.heap.size + 1 + 1 + 1 + 1 + 1 + 1 + 1 := by omega
  have b1 : w.heap.size ≤ w1.heap.size := by omega
  clear hbw1
  go_wp2_with fail
  refine (refCheckAim_is _ _ _ _ _ 0 _ hc).mono ?_
  rintro e w2 ⟨rfl, hbw2⟩
  have z2 := hbw2.size
  try simp at z2
  have c2_0 : w2.cell? ⟨w.heap.size, 0, none⟩ = some (.int .i64 s) := by rw [(bcell hbw2).1 _ _ (by first | (simp; done) | (simp; omega) | omega)]; simp [go_sem, World.cell?_alloc_past, *]
  have c2_1 : w2.cell? ⟨w.heap.size, 1, none⟩ = some (.int .i64 d) := by rw [(bcell hbw2).1 _ _ (by first | (simp; done) | (simp; omega) | omega)]; simp [go_sem, World.cell?_alloc_past, *]
  have c2_2 : w2.cell? ⟨w.heap.size, 2, none⟩ = some (.int .i64 a) := by rw [(bcell hbw2).1 _ _ (by first | (simp; done) | (simp; omega) | omega)]; simp [go_sem, World.cell?_alloc_past, *]
  have c2_3 : w2.cell? ⟨w.heap.size, 3, none⟩ = some (.int .i64 b) := by rw [(bcell hbw2).1 _ _ (by first | (simp; done) | (simp; omega) | omega)]; simp [go_sem, World.cell?_alloc_past, *]
  have c2_4 : w2.cell? ⟨w.heap.size, 4, none⟩ = some (.int .i64 n) := by rw [(bcell hbw2).1 _ _ (by first | (simp; done) | (simp; omega) | omega)]; simp [go_sem, World.cell?_alloc_past, *]
  have hB2 : Below w.heap.size w w2 := (by (repeat (first | (with_reducible refine Below.drew ?_) | (with_reducible refine below_drewN ?_ _) | (with_reducible refine Below.alloc ?_ (by first | omega | (simp; done) | (simp; omega) | (simp at *; omega)) _) | (with_reducible refine Below.setCell ?_ (by first | omega | (simp; done) | (simp; omega) | (simp at *; omega)) _) | (with_reducible exact Below.refl _ _) | (with_reducible assumption) | (with_reducible refine Below.trans ?_ (Below.mono (by assumption) (by first | omega | (simp; done) | (simp; omega) | (simp at *; omega)))))))
  clear c1_0 c1_1 c1_2 c1_3 c1_4 o1_0 n1_0 t1_0_1 t1_0_2 t1_0_3 t1_0_4 t1_0_5 t1_0_6 t1_0_7
  have o2_0 : w.heap.size < w2.heap.size := by omega
  have n2_0 : w2.heap.size ≠ w.heap.size := by omega
  have t2_0_1 : w.heap.size < w2.heap.size + 1 := by omega
  have t2_0_2 : w.heap.size < w2.heap.size + 1 + 1 := by omega
  have t2_0_3 : w.heap.size < w2.heap.size + 1 + 1 + 1 := by omega
  have t2_0_4 : w.heap.size < w2.heap.size + 1 + 1 + 1 + 1 := by omega
  have t2_0_5 : w.heap.size < w2.heap.size + 1 + 1 + 1 + 1 + 1 := by omega
  have t2_0_6 : w.heap.size < w2.heap.size + 1 + 1 + 1 + 1 + 1 + 1 := by omega
  have t2_0_7 : w.heap.size < w2.heap.size + 1 + 1 + 1 + 1 + 1 + 1 + 1 := by omega
  have b2 : w.heap.size ≤ w2.heap.size := by omega
  clear hbw2
  go_wp2_with fail
  refine (BestGas_m _ _ _ _ _ X Y _ hc true HM hx hy).mono ?_
  rintro e w3 ⟨rfl, hbw3⟩
  have z3 := hbw3.size
  try simp at z3
  have c3_0 : w3.cell? ⟨w.heap.size, 0, none⟩ = some (.int .i64 s) := by rw [(bcell hbw3).1 _ _ (by first | (simp; done) | (simp; omega) | omega)]; simp [go_sem, World.cell?_alloc_past, *]
  have c3_1 : w3.cell? ⟨w.heap.size, 1, none⟩ = some (.int .i64 d) := by rw [(bcell hbw3).1 _ _ (by first | (simp; done) | (simp; omega) | omega)]; simp [go_sem, World.cell?_alloc_past, *]
  have c3_2 : w3.cell? ⟨w.heap.size, 2, none⟩ = some (.int .i64 a) := by rw [(bcell hbw3).1 _ _ (by first | (simp; done) | (simp; omega) | omega)]; simp [go_sem, World.cell?_alloc_past, *]
  have c3_3 : w3.cell? ⟨w.heap.size, 3, none⟩ = some (.int .i64 b) := by rw [(bcell hbw3).1 _ _ (by first | (simp; done) | (simp; omega) | omega)]; simp [go_sem, World.cell?_alloc_past, *]
  have c3_4 : w3.cell? ⟨w.heap.size, 4, none⟩ = some (.int .i64 n) := by rw [(bcell hbw3).1 _ _ (by first | (simp; done) | (simp; omega) | omega)]; simp [go_sem, World.cell?_alloc_past, *]
  have hB3 : Below w.heap.size w w3 := (by (repeat (first | (with_reducible refine Below.drew ?_) | (with_reducible refine below_drewN ?_ _) | (with_reducible refine Below.alloc ?_ (by first | omega | (simp; done) | (simp; omega) | (simp at *; omega)) _) | (with_reducible refine Below.setCell ?_ (by first | omega | (simp; done) | (simp; omega) | (simp at *; omega)) _) | (with_reducible exact Below.refl _ _) | (with_reducible assumption) | (with_reducible refine Below.trans ?_ (Below.mono (by assumption) (by first | omega | (simp; done) | (simp; omega) | (simp at *; omega)))))))
  clear c2_0 c2_1 c2_2 c2_3 c2_4 o2_0 n2_0 t2_0_1 t2_0_2 t2_0_3 t2_0_4 t2_0_5 t2_0_6 t2_0_7
  have o3_0 : w.heap.size < w3.heap.size := by omega
  have n3_0 : w3.heap.size ≠ w.heap.size := by omega
  have t3_0_1 : w.heap.size < w3.heap.size + 1 := by omega
  have t3_0_2 : w.heap.size < w3.heap.size + 1 + 1 := by omega
  have t3_0_3 : w.heap.size < w3.heap.size + 1 + 1 + 1 := by omega
  have t3_0_4 : w.heap.size < w3.heap.size + 1 + 1 + 1 + 1 := by omega
  have t3_0_5 : w.heap.size < w3.heap.size + 1 + 1 + 1 + 1 + 1 := by omega
  have t3_0_6 : w.heap.size < w3.heap.size + 1 + 1 + 1 + 1 + 1 + 1 := by omega
  have t3_0_7 : w.heap.size < w3.heap.size + 1 + 1 + 1 + 1 + 1 + 1 + 1 := by omega
  have b3 : w.heap.size ≤ w3.heap.size := by omega
  clear hbw3
  go_wp2_with ((go_at_call 7; ((with_reducible refine (refCheckGas_c _ _ 0 _ hg).mono ?_)); rintro e w' ⟨rfl, rfl⟩))
  refine (DepthsFor_w X Y s a b L U 0 _ hL hU hD).mono ?_
  rintro e w4 ⟨rfl, hbw4⟩
  have z4 := hbw4.size
  try simp at z4
  have c4_0 : w4.cell? ⟨w.heap.size, 0, none⟩ = some (.int .i64 s) := by rw [(bcell hbw4).1 _ _ (by first | (simp; done) | (simp; omega) | omega)]; simp [go_sem, World.cell?_alloc_past, *]
  have c4_1 : w4.cell? ⟨w.heap.size, 1, none⟩ = some (.int .i64 d) := by rw [(bcell hbw4).1 _ _ (by first | (simp; done) | (simp; omega) | omega)]; simp [go_sem, World.cell?_alloc_past, *]
  have c4_2 : w4.cell? ⟨w.heap.size, 2, none⟩ = some (.int .i64 a) := by rw [(bcell hbw4).1 _ _ (by first | (simp; done) | (simp; omega) | omega)]; simp [go_sem, World.cell?_alloc_past, *]
  have c4_3 : w4.cell? ⟨w.heap.size, 3, none⟩ = some (.int .i64 b) := by rw [(bcell hbw4).1 _ _ (by first | (simp; done) | (simp; omega) | omega)]; simp [go_sem, World.cell?_alloc_past, *]
  have c4_4 : w4.cell? ⟨w.heap.size, 4, none⟩ = some (.int .i64 n) := by rw [(bcell hbw4).1 _ _ (by first | (simp; done) | (simp; omega) | omega)]; simp [go_sem, World.cell?_alloc_past, *]
  have c4_5 : w4.cell? ⟨w3.heap.size, 0, none⟩ = some (.int .i64 X) := by rw [(bcell hbw4).1 _ _ (by first | (simp; done) | (simp; omega) | omega)]; simp [go_sem, World.cell?_alloc_past, *]
  have c4_6 : w4.cell? ⟨w3.heap.size, 1, none⟩ = some (.int .i64 Y) := by rw [(bcell hbw4).1 _ _ (by first | (simp; done) | (simp; omega) | omega)]; simp [go_sem, World.cell?_alloc_past, *]
  have hB4 : Below w.heap.size w w4 := (by (repeat (first | (with_reducible refine Below.drew ?_) | (with_reducible refine below_drewN ?_ _) | (with_reducible refine Below.alloc ?_ (by first | omega | (simp; done) | (simp; omega) | (simp at *; omega)) _) | (with_reducible refine Below.setCell ?_ (by first | omega | (simp; done) | (simp; omega) | (simp at *; omega)) _) | (with_reducible exact Below.refl _ _) | (with_reducible assumption) | (with_reducible refine Below.trans ?_ (Below.mono (by assumption) (by first | omega | (simp; done) | (simp; omega) | (simp at *; omega)))))))
  clear c3_0 c3_1 c3_2 c3_3 c3_4 o3_0 n3_0 t3_0_1 t3_0_2 t3_0_3 t3_0_4 t3_0_5 t3_0_6 t3_0_7
  have o4_0 : w.heap.size < w4.heap.size := by omega
  have n4_0 : w4.heap.size ≠ w.heap.size := by omega
  have t4_0_1 : w.heap.size < w4.heap.size + 1 := by omega
  have t4_0_2 : w.heap.size < w4.heap.size + 1 + 1 := by omega
  have t4_0_3 : w.heap.size < w4.heap.size + 1 + 1 + 1 := by omega
  have t4_0_4 : w.heap.size < w4.heap.size + 1 + 1 + 1 + 1 := by omega
  have t4_0_5 : w.heap.size < w4.heap.size + 1 + 1 + 1 + 1 + 1 := by omega
  have t4_0_6 : w.heap.size < w4.heap.size + 1 + 1 + 1 + 1 + 1 + 1 := by omega
  have t4_0_7 : w.heap.size < w4.heap.size + 1 + 1 + 1 + 1 + 1 + 1 + 1 := by omega
  have o4_1 : w3.heap.size < w4.heap.size := by omega
  have n4_1 : w4.heap.size ≠ w3.heap.size := by omega
  have t4_1_1 : w3.heap.size < w4.heap.size + 1 := by omega
  have t4_1_2 : w3.heap.size < w4.heap.size + 1 + 1 := by omega
  have t4_1_3 : w3.heap.size < w4.heap.size + 1 + 1 + 1 := by omega
  have t4_1_4 : w3.heap.size < w4.heap.size + 1 + 1 + 1 + 1 := by omega
  have t4_1_5 : w3.heap.size < w4.heap.size + 1 + 1 + 1 + 1 + 1 := by omega
  have t4_1_6 : w3.heap.size < w4.heap.size + 1 + 1 + 1 + 1 + 1 + 1 := by omega
  have t4_1_7 : w3.heap.size < w4.heap.size + 1 + 1 + 1 + 1 + 1 + 1 + 1 := by omega
  have o4_2 : w3.heap.size + 1 < w4.heap.size := by omega
  have n4_2 : w4.heap.size ≠ w3.heap.size + 1 := by omega
  have t4_2_1 : w3.heap.size + 1 < w4.heap.size + 1 := by omega
  have t4_2_2 : w3.heap.size + 1 < w4.heap.size + 1 + 1 := by omega
  have t4_2_3 : w3.heap.size + 1 < w4.heap.size + 1 + 1 + 1 := by omega
  have t4_2_4 : w3.heap.size + 1 < w4.heap.size + 1 + 1 + 1 + 1 := by omega
  have t4_2_5 : w3.heap.size + 1 < w4.heap.size + 1 + 1 + 1 + 1 + 1 := by omega
  have t4_2_6 : w3.heap.size + 1 < w4.heap.size + 1 + 1 + 1 + 1 + 1 + 1 := by omega
  have t4_2_7 : w3.heap.size + 1 < w4.heap.size + 1 + 1 + 1 + 1 + 1 + 1 + 1 := by omega
  have b4 : w.heap.size ≤ w4.heap.size := by omega
  clear hbw4
  go_wp2_with fail
  refine (Narc_is X Y s d Z N0 N1 _ heq.out f1 f2 f3 f4 f5 k5 k6 k8 k9 hZ zz1 zz2 hN0 hN1).mono ?_
  rintro e w5 ⟨rfl, hbw5⟩
  have z5 := hbw5.size
  try simp at z5
  have c5_0 : w5.cell? ⟨w.heap.size, 0, none⟩ = some (.int .i64 s) := by rw [(bcell hbw5).1 _ _ (by first | (simp; done) | (simp; omega) | omega)]; simp [go_sem, World.cell?_alloc_past, *]
  have c5_1 : w5.cell? ⟨w.heap.size, 1, none⟩ = some (.int .i64 d) := by rw [(bcell hbw5).1 _ _ (by first | (simp; done) | (simp; omega) | omega)]; simp [go_sem, World.cell?_alloc_past, *]
  have c5_2 : w5.cell? ⟨w.heap.size, 2, none⟩ = some (.int .i64 a) := by rw [(bcell hbw5).1 _ _ (by first | (simp; done) | (simp; omega) | omega)]; simp [go_sem, World.cell?_alloc_past, *]
  have c5_3 : w5.cell? ⟨w.heap.size, 3, none⟩ = some (.int .i64 b) := by rw [(bcell hbw5).1 _ _ (by first | (simp; done) | (simp; omega) | omega)]; simp [go_sem, World.cell?_alloc_past, *]
  have c5_4 : w5.cell? ⟨w.heap.size, 4, none⟩ = some (.int .i64 n) := by rw [(bcell hbw5).1 _ _ (by first | (simp; done) | (simp; omega) | omega)]; simp [go_sem, World.cell?_alloc_past, *]
  have c5_5 : w5.cell? ⟨w3.heap.size, 0, none⟩ = some (.int .i64 X) := by rw [(bcell hbw5).1 _ _ (by first | (simp; done) | (simp; omega) | omega)]; simp [go_sem, World.cell?_alloc_past, *]
  have c5_6 : w5.cell? ⟨w3.heap.size, 1, none⟩ = some (.int .i64 Y) := by rw [(bcell hbw5).1 _ _ (by first | (simp; done) | (simp; omega) | omega)]; simp [go_sem, World.cell?_alloc_past, *]
  have c5_7 : w5.cell? ⟨w4.heap.size, 0, none⟩ = some (.int .i64 L) := by rw [(bcell hbw5).1 _ _ (by first | (simp; done) | (simp; omega) | omega)]; simp [go_sem, World.cell?_alloc_past, *]
  have c5_8 : w5.cell? ⟨w4.heap.size, 1, none⟩ = some (.int .i64 U) := by rw [(bcell hbw5).1 _ _ (by first | (simp; done) | (simp; omega) | omega)]; simp [go_sem, World.cell?_alloc_past, *]
  have hB5 : Below w.heap.size w w5 := (by (repeat (first | (with_reducible refine Below.drew ?_) | (with_reducible refine below_drewN ?_ _) | (with_reducible refine Below.alloc ?_ (by first | omega | (simp; done) | (simp; omega) | (simp at *; omega)) _) | (with_reducible refine Below.setCell ?_ (by first | omega | (simp; done) | (simp; omega) | (simp at *; omega)) _) | (with_reducible exact Below.refl _ _) | (with_reducible assumption) | (with_reducible refine Below.trans ?_ (Below.mono (by assumption) (by first | omega | (simp; done) | (simp; omega) | (simp at *; omega)))))))
  clear c4_0 c4_1 c4_2 c4_3 c4_4 c4_5 c4_6 o4_0 n4_0 t4_0_1 t4_0_2 t4_0_3 t4_0_4 t4_0_5 t4_0_6 t4_0_7 o4_1 n4_1 t4_1_1 t4_1_2 t4_1_3 t4_1_4 t4_1_5 t4_1_6 t4_1_7 o4_2 n4_2 t4_2_1 t4_2_2 t4_2_3 t4_2_4 t4_2_5 t4_2_6 t4_2_7
  have o5_0 : w.heap.size < w5.heap.size := by omega
  have n5_0 : w5.heap.size ≠ w.heap.size := by omega
  have t5_0_1 : w.heap.size < w5.heap.size + 1 := by omega
  have t5_0_2 : w.heap.size < w5.heap.size + 1 + 1 := by omega
  have t5_0_3 : w.heap.size < w5.heap.size + 1 + 1 + 1 := by omega
  have t5_0_4 : w.heap.size < w5.heap.size + 1 + 1 + 1 + 1 := by omega
  have t5_0_5 : w.heap.size < w5.heap.size + 1 + 1 + 1 + 1 + 1 := by omega
  have t5_0_6 : w.heap.size < w5.heap.size + 1 + 1 + 1 + 1 + 1 + 1 := by omega
  have t5_0_7 : w.heap.size < w5.heap.size + 1 + 1 + 1 + 1 + 1 + 1 + 1 := by omega
  have o5_1 : w3.heap.size < w5.heap.size := by omega
  have n5_1 : w5.heap.size ≠ w3.heap.size := by omega
  have t5_1_1 : w3.heap.size < w5.heap.size + 1 := by omega
  have t5_1_2 : w3.heap.size < w5.heap.size + 1 + 1 := by omega
  have t5_1_3 : w3.heap.size < w5.heap.size + 1 + 1 + 1 := by omega
  have t5_1_4 : w3.heap.size < w5.heap.size + 1 + 1 + 1 + 1 := by omega
  have t5_1_5 : w3.heap.size < w5.heap.size + 1 + 1 + 1 + 1 + 1 := by omega
  have t5_1_6 : w3.heap.size < w5.heap.size + 1 + 1 + 1 + 1 + 1 + 1 := by omega
  have t5_1_7 : w3.heap.size < w5.heap.size + 1 + 1 + 1 + 1 + 1 + 1 + 1 := by omega
  have o5_2 : w3.heap.size + 1 < w5.heap.size := by omega
  have n5_2 : w5.heap.size ≠ w3.heap.size + 1 := by omega
  have t5_2_1 : w3.heap.size + 1 < w5.heap.size + 1 := by omega
  have t5_2_2 : w3.heap.size + 1 < w5.heap.size + 1 + 1 := by omega
  have t5_2_3 : w3.heap.size + 1 < w5.heap.size + 1 + 1 + 1 := by omega
  have t5_2_4 : w3.heap.size + 1 < w5.heap.size + 1 + 1 + 1 + 1 := by omega
  have t5_2_5 : w3.heap.size + 1 < w5.heap.size + 1 + 1 + 1 + 1 + 1 := by omega
  have t5_2_6 : w3.heap.size + 1 < w5.heap.size + 1 + 1 + 1 + 1 + 1 + 1 := by omega
  have t5_2_7 : w3.heap.size + 1 < w5.heap.size + 1 + 1 + 1 + 1 + 1 + 1 + 1 := by omega
  have o5_3 : w4.heap.size < w5.heap.size := by omega
  have n5_3 : w5.heap.size ≠ w4.heap.size := by omega
  have t5_3_1 : w4.heap.size < w5.heap.size + 1 := by omega
  have t5_3_2 : w4.heap.size < w5.heap.size + 1 + 1 := by omega
  have t5_3_3 : w4.heap.size < w5.heap.size + 1 + 1 + 1 := by omega
  have t5_3_4 : w4.heap.size < w5.heap.size + 1 + 1 + 1 + 1 := by omega
  have t5_3_5 : w4.heap.size < w5.heap.size + 1 + 1 + 1 + 1 + 1 := by omega
  have t5_3_6 : w4.heap.size < w5.heap.size + 1 + 1 + 1 + 1 + 1 + 1 := by omega
  have t5_3_7 : w4.heap.size < w5.heap.size + 1 + 1 + 1 + 1 + 1 + 1 + 1 := by omega
  have b5 : w.heap.size ≤ w5.heap.size := by omega
  clear hbw5
  go_wp2_with ((go_at_call 10; ((with_reducible refine (baseWithin_t _ _ _ _ l1 l2).mono ?_)); rintro e w' ⟨rfl, rfl⟩))
  refine (gap1 X Y s a b d _ _ (by simp [go_sem]) (by simp [go_sem]) hGE hBr).mono ?_
  rintro e w6 ⟨rfl, hbw6⟩
  have z6 := hbw6.size
  try simp at z6
  have c6_0 : w6.cell? ⟨w.heap.size, 0, none⟩ = some (.int .i64 s) := by rw [(bcell hbw6).1 _ _ (by first | (simp; done) | (simp; omega) | omega)]; simp [go_sem, World.cell?_alloc_past, *]
  have c6_1 : w6.cell? ⟨w.heap.size, 1, none⟩ = some (.int .i64 d) := by rw [(bcell hbw6).1 _ _ (by first | (simp; done) | (simp; omega) | omega)]; simp [go_sem, World.cell?_alloc_past, *]
  have c6_2 : w6.cell? ⟨w.heap.size, 2, none⟩ = some (.int .i64 a) := by rw [(bcell hbw6).1 _ _ (by first | (simp; done) | (simp; omega) | omega)]; simp [go_sem, World.cell?_alloc_past, *]
  have c6_3 : w6.cell? ⟨w.heap.size, 3, none⟩ = some (.int .i64 b) := by rw [(bcell hbw6).1 _ _ (by first | (simp; done) | (simp; omega) | omega)]; simp [go_sem, World.cell?_alloc_past, *]
  have c6_4 : w6.cell? ⟨w.heap.size, 4, none⟩ = some (.int .i64 n) := by rw [(bcell hbw6).1 _ _ (by first | (simp; done) | (simp; omega) | omega)]; simp [go_sem, World.cell?_alloc_past, *]
  have c6_5 : w6.cell? ⟨w3.heap.size, 0, none⟩ = some (.int .i64 X) := by rw [(bcell hbw6).1 _ _ (by first | (simp; done) | (simp; omega) | omega)]; simp [go_sem, World.cell?_alloc_past, *]
  have c6_6 : w6.cell? ⟨w3.heap.size, 1, none⟩ = some (.int .i64 Y) := by rw [(bcell hbw6).1 _ _ (by first | (simp; done) | (simp; omega) | omega)]; simp [go_sem, World.cell?_alloc_past, *]
  have c6_7 : w6.cell? ⟨w4.heap.size, 0, none⟩ = some (.int .i64 L) := by rw [(bcell hbw6).1 _ _ (by first | (simp; done) | (simp; omega) | omega)]; simp [go_sem, World.cell?_alloc_past, *]
  have c6_8 : w6.cell? ⟨w4.heap.size, 1, none⟩ = some (.int .i64 U) := by rw [(bcell hbw6).1 _ _ (by first | (simp; done) | (simp; omega) | omega)]; simp [go_sem, World.cell?_alloc_past, *]
  have c6_9 : w6.cell? ⟨w5.heap.size, 0, none⟩ = some (.int .i64 N0) := by rw [(bcell hbw6).1 _ _ (by first | (simp; done) | (simp; omega) | omega)]; simp [go_sem, World.cell?_alloc_past, *]
  have c6_10 : w6.cell? ⟨w5.heap.size, 1, none⟩ = some (.int .i64 N1) := by rw [(bcell hbw6).1 _ _ (by first | (simp; done) | (simp; omega) | omega)]; simp [go_sem, World.cell?_alloc_past, *]
  have hB6 : Below w.heap.size w w6 := (by (repeat (first | (with_reducible refine Below.drew ?_) | (with_reducible refine below_drewN ?_ _) | (with_reducible refine Below.alloc ?_ (by first | omega | (simp; done) | (simp; omega) | (simp at *; omega)) _) | (with_reducible refine Below.setCell ?_ (by first | omega | (simp; done) | (simp; omega) | (simp at *; omega)) _) | (with_reducible exact Below.refl _ _) | (with_reducible assumption) | (with_reducible refine Below.trans ?_ (Below.mono (by assumption) (by first | omega | (simp; done) | (simp; omega) | (simp at *; omega)))))))
  clear c5_0 c5_1 c5_2 c5_3 c5_4 c5_5 c5_6 c5_7 c5_8 o5_0 n5_0 t5_0_1 t5_0_2 t5_0_3 t5_0_4 t5_0_5 t5_0_6 t5_0_7 o5_1 n5_1 t5_1_1 t5_1_2 t5_1_3 t5_1_4 t5_1_5 t5_1_6 t5_1_7 o5_2 n5_2 t5_2_1 t5_2_2 t5_2_3 t5_2_4 t5_2_5 t5_2_6 t5_2_7 o5_3 n5_3 t5_3_1 t5_3_2 t5_3_3 t5_3_4 t5_3_5 t5_3_6 t5_3_7
  have o6_0 : w.heap.size < w6.heap.size := by omega
  have n6_0 : w6.heap.size ≠ w.heap.size := by omega
  have t6_0_1 : w.heap.size < w6.heap.size + 1 := by omega
  have t6_0_2 : w.heap.size < w6.heap.size + 1 + 1 := by omega
  have t6_0_3 : w.heap.size < w6.heap.size + 1 + 1 + 1 := by omega
  have t6_0_4 : w.heap.size < w6.heap.size + 1 + 1 + 1 + 1 := by omega
  have t6_0_5 : w.heap.size < w6.heap.size + 1 + 1 + 1 + 1 + 1 := by omega
  have t6_0_6 : w.heap.size < w6.heap.size + 1 + 1 + 1 + 1 + 1 + 1 := by omega
  have t6_0_7 : w.heap.size < w6.heap.size + 1 + 1 + 1 + 1 + 1 + 1 + 1 := by omega
  have o6_1 : w3.heap.size < w6.heap.size := by omega
  have n6_1 : w6.heap.size ≠ w3.heap.size := by omega
  have t6_1_1 : w3.heap.size < w6.heap.size + 1 := by omega
  have t6_1_2 : w3.heap.size < w6.heap.size + 1 + 1 := by omega
  have t6_1_3 : w3.heap.size < w6.heap.size + 1 + 1 + 1 := by omega
  have t6_1_4 : w3.heap.size < w6.heap.size + 1 + 1 + 1 + 1 := by omega
  have t6_1_5 : w3.heap.size < w6.heap.size + 1 + 1 + 1 + 1 + 1 := by omega
  have t6_1_6 : w3.heap.size < w6.heap.size + 1 + 1 + 1 + 1 + 1 + 1 := by omega
  have t6_1_7 : w3.heap.size < w6.heap.size + 1 + 1 + 1 + 1 + 1 + 1 + 1 := by omega
  have o6_2 : w3.heap.size + 1 < w6.heap.size := by omega
  have n6_2 : w6.heap.size ≠ w3.heap.size + 1 := by omega
  have t6_2_1 : w3.heap.size + 1 < w6.heap.size + 1 := by omega
  have t6_2_2 : w3.heap.size + 1 < w6.heap.size + 1 + 1 := by omega
  have t6_2_3 : w3.heap.size + 1 < w6.heap.size + 1 + 1 + 1 := by omega
  have t6_2_4 : w3.heap.size + 1 < w6.heap.size + 1 + 1 + 1 + 1 := by omega
  have t6_2_5 : w3.heap.size + 1 < w6.heap.size + 1 + 1 + 1 + 1 + 1 := by omega
  have t6_2_6 : w3.heap.size + 1 < w6.heap.size + 1 + 1 + 1 + 1 + 1 + 1 := by omega
  have t6_2_7 : w3.heap.size + 1 < w6.heap.size + 1 + 1 + 1 + 1 + 1 + 1 + 1 := by omega
  have o6_3 : w4.heap.size < w6.heap.size := by omega
  have n6_3 : w6.heap.size ≠ w4.heap.size := by omega
  have t6_3_1 : w4.heap.size < w6.heap.size + 1 := by omega
  have t6_3_2 : w4.heap.size < w6.heap.size + 1 + 1 := by omega
  have t6_3_3 : w4.heap.size < w6.heap.size + 1 + 1 + 1 := by omega
  have t6_3_4 : w4.heap.size < w6.heap.size + 1 + 1 + 1 + 1 := by omega
  have t6_3_5 : w4.heap.size < w6.heap.size + 1 + 1 + 1 + 1 + 1 := by omega
  have t6_3_6 : w4.heap.size < w6.heap.size + 1 + 1 + 1 + 1 + 1 + 1 := by omega
  have t6_3_7 : w4.heap.size < w6.heap.size + 1 + 1 + 1 + 1 + 1 + 1 + 1 := by omega
  have o6_4 : w5.heap.size < w6.heap.size := by omega
  have n6_4 : w6.heap.size ≠ w5.heap.size := by omega
  have t6_4_1 : w5.heap.size < w6.heap.size + 1 := by omega
  have t6_4_2 : w5.heap.size < w6.heap.size + 1 + 1 := by omega
  have t6_4_3 : w5.heap.size < w6.heap.size + 1 + 1 + 1 := by omega
  have t6_4_4 : w5.heap.size < w6.heap.size + 1 + 1 + 1 + 1 := by omega
  have t6_4_5 : w5.heap.size < w6.heap.size + 1 + 1 + 1 + 1 + 1 := by omega
  have t6_4_6 : w5.heap.size < w6.heap.size + 1 + 1 + 1 + 1 + 1 + 1 := by omega
  have t6_4_7 : w5.heap.size < w6.heap.size + 1 + 1 + 1 + 1 + 1 + 1 + 1 := by omega
  have o6_5 : w5.heap.size + 1 < w6.heap.size := by omega
  have n6_5 : w6.heap.size ≠ w5.heap.size + 1 := by omega
  have t6_5_1 : w5.heap.size + 1 < w6.heap.size + 1 := by omega
  have t6_5_2 : w5.heap.size + 1 < w6.heap.size + 1 + 1 := by omega
  have t6_5_3 : w5.heap.size + 1 < w6.heap.size + 1 + 1 + 1 := by omega
  have t6_5_4 : w5.heap.size + 1 < w6.heap.size + 1 + 1 + 1 + 1 := by omega
  have t6_5_5 : w5.heap.size + 1 < w6.heap.size + 1 + 1 + 1 + 1 + 1 := by omega
  have t6_5_6 : w5.heap.size + 1 < w6.heap.size + 1 + 1 + 1 + 1 + 1 + 1 := by omega
  have t6_5_7 : w5.heap.size + 1 < w6.heap.size + 1 + 1 + 1 + 1 + 1 + 1 + 1 := by omega
  have b6 : w.heap.size ≤ w6.heap.size := by omega
  clear hbw6
  go_wp2_with fail
  refine (Rich2 X Y s d a b n _ _ (by simp [go_sem]) (by simp [go_sem]) (by simp [go_sem]) (by simp [go_sem]) hg hc hXm).mono ?_
  rintro e w7 ⟨rfl, hbw7⟩
  have z7 := hbw7.size
  try simp at z7
  have c7_0 : w7.cell? ⟨w.heap.size, 0, none⟩ = some (.int .i64 s) := by rw [(bcell hbw7).1 _ _ (by first | (simp; done) | (simp; omega) | omega)]; simp [go_sem, World.cell?_alloc_past, *]
  have c7_1 : w7.cell? ⟨w.heap.size, 1, none⟩ = some (.int .i64 d) := by rw [(bcell hbw7).1 _ _ (by first | (simp; done) | (simp; omega) | omega)]; simp [go_sem, World.cell?_alloc_past, *]
  have c7_2 : w7.cell? ⟨w.heap.size, 2, none⟩ = some (.int .i64 a) := by rw [(bcell hbw7).1 _ _ (by first | (simp; done) | (simp; omega) | omega)]; simp [go_sem, World.cell?_alloc_past, *]
  have c7_3 : w7.cell? ⟨w.heap.size, 3, none⟩ = some (.int .i64 b) := by rw [(bcell hbw7).1 _ _ (by first | (simp; done) | (simp; omega) | omega)]; simp [go_sem, World.cell?_alloc_past, *]
  have c7_4 : w7.cell? ⟨w.heap.size, 4, none⟩ = some (.int .i64 n) := by rw [(bcell hbw7).1 _ _ (by first | (simp; done) | (simp; omega) | omega)]; simp [go_sem, World.cell?_alloc_past, *]
  have c7_5 : w7.cell? ⟨w3.heap.size, 0, none⟩ = some (.int .i64 X) := by rw [(bcell hbw7).1 _ _ (by first | (simp; done) | (simp; omega) | omega)]; simp [go_sem, World.cell?_alloc_past, *]
  have c7_6 : w7.cell? ⟨w3.heap.size, 1, none⟩ = some (.int .i64 Y) := by rw [(bcell hbw7).1 _ _ (by first | (simp; done) | (simp; omega) | omega)]; simp [go_sem, World.cell?_alloc_past, *]
  have c7_7 : w7.cell? ⟨w4.heap.size, 0, none⟩ = some (.int .i64 L) := by rw [(bcell hbw7).1 _ _ (by first | (simp; done) | (simp; omega) | omega)]; simp [go_sem, World.cell?_alloc_past, *]
  have c7_8 : w7.cell? ⟨w4.heap.size, 1, none⟩ = some (.int .i64 U) := by rw [(bcell hbw7).1 _ _ (by first | (simp; done) | (simp; omega) | omega)]; simp [go_sem, World.cell?_alloc_past, *]
  have c7_9 : w7.cell? ⟨w5.heap.size, 0, none⟩ = some (.int .i64 N0) := by rw [(bcell hbw7).1 _ _ (by first | (simp; done) | (simp; omega) | omega)]; simp [go_sem, World.cell?_alloc_past, *]
  have c7_10 : w7.cell? ⟨w5.heap.size, 1, none⟩ = some (.int .i64 N1) := by rw [(bcell hbw7).1 _ _ (by first | (simp; done) | (simp; omega) | omega)]; simp [go_sem, World.cell?_alloc_past, *]
  have hB7 : Below w.heap.size w w7 := (by (repeat (first | (with_reducible refine Below.drew ?_) | (with_reducible refine below_drewN ?_ _) | (with_reducible refine Below.alloc ?_ (by first | omega | (simp; done) | (simp; omega) | (simp at *; omega)) _) | (with_reducible refine Below.setCell ?_ (by first | omega | (simp; done) | (simp; omega) | (simp at *; omega)) _) | (with_reducible exact Below.refl _ _) | (with_reducible assumption) | (with_reducible refine Below.trans ?_ (Below.mono (by assumption) (by first | omega | (simp; done) | (simp; omega) | (simp at *; omega)))))))
  clear c6_0 c6_1 c6_2 c6_3 c6_4 c6_5 c6_6 c6_7 c6_8 c6_9 c6_10 o6_0 n6_0 t6_0_1 t6_0_2 t6_0_3 t6_0_4 t6_0_5 t6_0_6 t6_0_7 o6_1 n6_1 t6_1_1 t6_1_2 t6_1_3 t6_1_4 t6_1_5 t6_1_6 t6_1_7 o6_2 n6_2 t6_2_1 t6_2_2 t6_2_3 t6_2_4 t6_2_5 t6_2_6 t6_2_7 o6_3 n6_3 t6_3_1 t6_3_2 t6_3_3 t6_3_4 t6_3_5 t6_3_6 t6_3_7 o6_4 n6_4 t6_4_1 t6_4_2 t6_4_3 t6_4_4 t6_4_5 t6_4_6 t6_4_7 o6_5 n6_5 t6_5_1 t6_5_2 t6_5_3 t6_5_4 t6_5_5 t6_5_6 t6_5_7
  have o7_0 : w.heap.size < w7.heap.size := by omega
  have n7_0 : w7.heap.size ≠ w.heap.size := by omega
  have t7_0_1 : w.heap.size < w7.heap.size + 1 := by omega
  have t7_0_2 : w.heap.size < w7.heap.size + 1 + 1 := by omega
  have t7_0_3 : w.heap.size < w7.heap.size + 1 + 1 + 1 := by omega
  have t7_0_4 : w.heap.size < w7.heap.size + 1 + 1 + 1 + 1 := by omega
  have t7_0_5 : w.heap.size < w7.heap.size + 1 + 1 + 1 + 1 + 1 := by omega
  have t7_0_6 : w.heap.size < w7.heap.size + 1 + 1 + 1 + 1 + 1 + 1 := by omega
  have t7_0_7 : w.heap.size < w7.heap.size + 1 + 1 + 1 + 1 + 1 + 1 + 1 := by omega
  have o7_1 : w3.heap.size < w7.heap.size := by omega
  have n7_1 : w7.heap.size ≠ w3.heap.size := by omega
  have t7_1_1 : w3.heap.size < w7.heap.size + 1 := by omega
  have t7_1_2 : w3.heap.size < w7.heap.size + 1 + 1 := by omega
  have t7_1_3 : w3.heap.size < w7.heap.size + 1 + 1 + 1 := by omega
  have t7_1_4 : w3.heap.size < w7.heap.size + 1 + 1 + 1 + 1 := by omega
  have t7_1_5 : w3.heap.size < w7.heap.size + 1 + 1 + 1 + 1 + 1 := by omega
  have t7_1_6 : w3.heap.size < w7.heap.size + 1 + 1 + 1 + 1 + 1 + 1 := by omega
  have t7_1_7 : w3.heap.size < w7.heap.size + 1 + 1 + 1 + 1 + 1 + 1 + 1 := by omega
  have o7_2 : w3.heap.size + 1 < w7.heap.size := by omega
  have n7_2 : w7.heap.size ≠ w3.heap.size + 1 := by omega
  have t7_2_1 : w3.heap.size + 1 < w7.heap.size + 1 := by omega
  have t7_2_2 : w3.heap.size + 1 < w7.heap.size + 1 + 1 := by omega
  have t7_2_3 : w3.heap.size + 1 < w7.heap.size + 1 + 1 + 1 := by omega
  have t7_2_4 : w3.heap.size + 1 < w7.heap.size + 1 + 1 + 1 + 1 := by omega
  have t7_2_5 : w3.heap.size + 1 < w7.heap.size + 1 + 1 + 1 + 1 + 1 := by omega
  have t7_2_6 : w3.heap.size + 1 < w7.heap.size + 1 + 1 + 1 + 1 + 1 + 1 := by omega
  have t7_2_7 : w3.heap.size + 1 < w7.heap.size + 1 + 1 + 1 + 1 + 1 + 1 + 1 := by omega
  have o7_3 : w4.heap.size < w7.heap.size := by omega
  have n7_3 : w7.heap.size ≠ w4.heap.size := by omega
  have t7_3_1 : w4.heap.size < w7.heap.size + 1 := by omega
  have t7_3_2 : w4.heap.size < w7.heap.size + 1 + 1 := by omega
  have t7_3_3 : w4.heap.size < w7.heap.size + 1 + 1 + 1 := by omega
  have t7_3_4 : w4.heap.size < w7.heap.size + 1 + 1 + 1 + 1 := by omega
  have t7_3_5 : w4.heap.size < w7.heap.size + 1 + 1 + 1 + 1 + 1 := by omega
  have t7_3_6 : w4.heap.size < w7.heap.size + 1 + 1 + 1 + 1 + 1 + 1 := by omega
  have t7_3_7 : w4.heap.size < w7.heap.size + 1 + 1 + 1 + 1 + 1 + 1 + 1 := by omega
  have o7_4 : w5.heap.size < w7.heap.size := by omega
  have n7_4 : w7.heap.size ≠ w5.heap.size := by omega
  have t7_4_1 : w5.heap.size < w7.heap.size + 1 := by omega
  have t7_4_2 : w5.heap.size < w7.heap.size + 1 + 1 := by omega
  have t7_4_3 : w5.heap.size < w7.heap.size + 1 + 1 + 1 := by omega
  have t7_4_4 : w5.heap.size < w7.heap.size + 1 + 1 + 1 + 1 := by omega
  have t7_4_5 : w5.heap.size < w7.heap.size + 1 + 1 + 1 + 1 + 1 := by omega
  have t7_4_6 : w5.heap.size < w7.heap.size + 1 + 1 + 1 + 1 + 1 + 1 := by omega
  have t7_4_7 : w5.heap.size < w7.heap.size + 1 + 1 + 1 + 1 + 1 + 1 + 1 := by omega
  have o7_5 : w5.heap.size + 1 < w7.heap.size := by omega
  have n7_5 : w7.heap.size ≠ w5.heap.size + 1 := by omega
  have t7_5_1 : w5.heap.size + 1 < w7.heap.size + 1 := by omega
  have t7_5_2 : w5.heap.size + 1 < w7.heap.size + 1 + 1 := by omega
  have t7_5_3 : w5.heap.size + 1 < w7.heap.size + 1 + 1 + 1 := by omega
  have t7_5_4 : w5.heap.size + 1 < w7.heap.size + 1 + 1 + 1 + 1 := by omega
  have t7_5_5 : w5.heap.size + 1 < w7.heap.size + 1 + 1 + 1 + 1 + 1 := by omega
  have t7_5_6 : w5.heap.size + 1 < w7.heap.size + 1 + 1 + 1 + 1 + 1 + 1 := by omega
  have t7_5_7 : w5.heap.size + 1 < w7.heap.size + 1 + 1 + 1 + 1 + 1 + 1 + 1 := by omega
  have o7_6 : w6.heap.size < w7.heap.size := by omega
  have n7_6 : w7.heap.size ≠ w6.heap.size := by omega
  have t7_6_1 : w6.heap.size < w7.heap.size + 1 := by omega
  have t7_6_2 : w6.heap.size < w7.heap.size + 1 + 1 := by omega
  have t7_6_3 : w6.heap.size < w7.heap.size + 1 + 1 + 1 := by omega
  have t7_6_4 : w6.heap.size < w7.heap.size + 1 + 1 + 1 + 1 := by omega
  have t7_6_5 : w6.heap.size < w7.heap.size + 1 + 1 + 1 + 1 + 1 := by omega
  have t7_6_6 : w6.heap.size < w7.heap.size + 1 + 1 + 1 + 1 + 1 + 1 := by omega
  have t7_6_7 : w6.heap.size < w7.heap.size + 1 + 1 + 1 + 1 + 1 + 1 + 1 := by omega
  have b7 : w.heap.size ≤ w7.heap.size := by omega
  clear hbw7
  go_wp2
  go_ret
  exact ⟨rfl, (by (repeat (first | (with_reducible refine Below.drew ?_) | (with_reducible refine below_drewN ?_ _) | (with_reducible refine Below.alloc ?_ (by first | omega | (simp; done) | (simp; omega) | (simp at *; omega)) _) | (with_reducible refine Below.setCell ?_ (by first | omega | (simp; done) | (simp; omega) | (simp at *; omega)) _) | (with_reducible exact Below.refl _ _) | (with_reducible assumption) | (with_reducible refine Below.trans ?_ (Below.mono (by assumption) (by first | omega | (simp; done) | (simp; omega) | (simp at *; omega)))))))⟩
theorem topDepthsAgree_any (s d a b n : Int) (w : World) :
    Calls Try.prog 3 #[.agg #[.int .i64 s, .int .i64 d, .int .i64 a, .int .i64 b, .int .i64 n]] w fun e w' => e = .returned (.bool true) ∧ Below w.heap.size w w' := by
  rcases ez (aimE s d a b n) with ⟨hz, hb⟩ | ⟨hz, hb⟩
  · obtain ⟨⟨k1, k2⟩, ⟨k9, k10⟩, ⟨k5, k6, k7, k8, k11⟩, k3, k4⟩ := aimE_z hz.out
    have p0 : 0 < s + d := by omega
    have p1 : 0 ≤ s + n := by omega
    cases hM : metB (bestOx s (s + d) n b) (bestHe s (s + d) n) s a b n (s + d)
    · exact tdlaw_n s d a b n w hz hM
    · obtain ⟨q1, q2, q3⟩ := bestOx_bd (b := b) p0 p1 (by omega)
      obtain ⟨e1, e2⟩ := bestHe_bd p0 p1
      have hMM : Hid (metB (bestOx s (s + d) n b) (bestHe s (s + d) n) s a b n (s + d) = true) := hM
      obtain ⟨⟨m1, m2⟩, m3⟩ := metB_iff.1 hM
      obtain ⟨X, hX⟩ : ∃ X, bestOx s (s + d) n b = X := ⟨_, rfl⟩
      obtain ⟨Y, hY⟩ : ∃ Y, bestHe s (s + d) n = Y := ⟨_, rfl⟩
      rw [hX] at q1 q2 q3 m1 m2 hM
      rw [hY] at q2 e1 e2 m3 hM
      have x1 : 1 ≤ X := by
        by_cases c : X = 0
        · rw [c, Int.zero_mul] at m1; omega
        · omega
      have hg : gasE X Y = 0 := by unfold gasE; rw [if_pos ⟨inB_true q1 (by omega), inB_true e1 e2⟩, if_pos (by omega)]
      have hs : rngE s 400 1100 = 0 := rngE_t (inB_true k1 k2)
      have hd0 : rngE d 0 30000 = 0 := rngE_t (inB_true k9 k10)
      have hli : limE a b = 0 := by rw [limE_val, if_pos ⟨inB_true k5 k6, inB_true k7 k8⟩, if_pos k11]
      have hP : depP X Y s a b = 0 := by unfold depP; rw [hg, hs, hli]; rfl
      have hin : inB d (depLo X s a) (depHi X s b) = true := by rw [← t_edges x1 k9 k10]; exact inB_true m1 m2
      obtain ⟨i1, i2⟩ := inB_iff.1 hin
      have hE : depE X Y s a b = 0 := by unfold depE; rw [if_pos hP, if_neg (by omega), if_pos (by omega)]
      have hL : depL X Y s a b = depLo X s a := if_pos hE
      have hU : depH X Y s a b = depHi X s b := if_pos hE
      obtain ⟨Z, hZ⟩ : ∃ Z, (1000 - Y) * (s + d) = Z := ⟨_, rfl⟩
      have z1 : 0 ≤ Z := by rw [← hZ]; exact Int.mul_nonneg (by omega) (by omega)
      have z2 : Z ≤ 40000000 := by rw [← hZ]; exact Int.le_trans (Int.mul_le_mul (show 1000 - Y ≤ 1000 by omega) (show s + d ≤ 31100 by omega) (by omega) (by omega)) (by omega)
      rw [hZ] at m3
      refine tdlaw_k s d a b n w hz X Y hMM (by show _ = _; rw [if_pos rfl]; exact hX) (by show _ = _; rw [if_pos rfl]; exact hY) hg hM _ _ rfl rfl hE ?_ ?_ Z _ _ hZ z1 z2 rfl rfl ?_ ?_ q1 (by omega) e1 e2 (by omega) k1 k2 k9 k10 ?_ ?_
      · rw [hL]; exact i1
      · rw [hU]; exact i2
      · unfold above; split <;> omega
      · show _ = _
        unfold eqE; rw [hg, hs, hd0]; rfl
      · show _ = _
        unfold gapE
        rw [show gasesE [⟨X, Y⟩] = 0 by unfold gasesE; simp [gasesE1, hg], hs, hli, show rdE d d = 0 by unfold rdE rd2; rw [hd0]; simp [firE]]
        rfl
      · show _ = _
        unfold brB
        rw [hE, hL, hU, hin]; rfl
  · exact tdlaw_b s d a b n w _ rfl hb
end Go.Proofs.Ytebieflnlmdllab
