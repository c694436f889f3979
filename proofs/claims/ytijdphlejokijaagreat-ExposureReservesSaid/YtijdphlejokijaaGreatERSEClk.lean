import Derived.Test.YtijdphlejokijaaGreatERSEBr
import Derived.Outline
namespace Go.Proofs.YtijdphlejokijaaGreat
open Go.ChangeShapes Go.WideShapes Go.ChangeAt Go.RowKit
set_option linter.unusedVariables false
set_option linter.unusedSimpArgs false
attribute [local go_sem ↓] Go.wp_at_zero Go.wp_at_succ
/-- The width of a row within two pressures; the sums of widths, and of what they cost. -/
def clkW (T : List Ox) (lo hi : Int) (k : Nat) : Int := max 0 ((if k + 1 < T.length then min hi (1000 * (T.getD (k + 1) default).f) else hi) - max lo (1000 * (T.getD k default).f))
def clkU (T : List Ox) (lo hi : Int) : Nat → Int
  | 0 => 0
  | k + 1 => clkU T lo hi k + clkW T lo hi k
def clkS (T : List Ox) (lo hi : Int) : Nat → Int
  | 0 => 0
  | k + 1 => clkS T lo hi k + (T.getD k default).r * clkW T lo hi k
def clkV (T : List Ox) (s lo hi : Int) : Int := if lo = hi then s * rateV T lo else upE (s * clkS T lo hi T.length) (hi - lo)
theorem clkU_bd {T : List Ox} (hT : OxOk T) {lo hi : Int} (h0 : 0 ≤ lo) (h1 : lo ≤ hi) : ∀ k, k ≤ T.length → 0 ≤ clkU T lo hi k ∧ clkU T lo hi k ≤ hi - lo ∧ (k < T.length → clkU T lo hi k ≤ max 0 (min hi (1000 * (T.getD k default).f) - lo))
  | 0, _ => ⟨by unfold clkU; omega, by unfold clkU; omega, fun _ => by unfold clkU; omega⟩
  | k + 1, hk => by
    obtain ⟨a, b, c⟩ := clkU_bd hT h0 h1 k (by omega)
    have c' := c (by omega)
    have hW : clkW T lo hi k = max 0 ((if k + 1 < T.length then min hi (1000 * (T.getD (k + 1) default).f) else hi) - max lo (1000 * (T.getD k default).f)) := rfl
    show 0 ≤ clkU T lo hi k + clkW T lo hi k ∧ clkU T lo hi k + clkW T lo hi k ≤ hi - lo ∧ _
    by_cases hl : k + 1 < T.length
    · have hm := hT.m k hl
      rw [if_pos hl] at hW
      refine ⟨by omega, by omega, fun _ => ?_⟩
      show clkU T lo hi k + clkW T lo hi k ≤ _
      omega
    · rw [if_neg hl] at hW
      exact ⟨by omega, by omega, fun h => absurd h hl⟩
theorem clkW_bd {T : List Ox} (hT : OxOk T) {lo hi : Int} (h0 : 0 ≤ lo) (h1 : lo ≤ hi) (k : Nat) : 0 ≤ clkW T lo hi k ∧ clkW T lo hi k ≤ hi - lo := by
  unfold clkW
  split <;> omega
theorem clkS_bd {T : List Ox} (hT : OxOk T) {lo hi : Int} (h0 : 0 ≤ lo) (h1 : lo ≤ hi) : ∀ k, k ≤ T.length → 0 ≤ clkS T lo hi k ∧ clkS T lo hi k ≤ 100000 * clkU T lo hi k
  | 0, _ => by unfold clkS clkU; omega
  | k + 1, hk => by
    have ih := clkS_bd hT h0 h1 k (by omega)
    have w := clkW_bd hT h0 h1 k
    have b := hT.at' (k := k) (by omega)
    have g : T.getD k default = T[k] := getD_at (by omega)
    have p := mul_bd b.2.2.1 b.2.2.2 w.1 (Int.le_refl _)
    show 0 ≤ clkS T lo hi k + (T.getD k default).r * clkW T lo hi k ∧ clkS T lo hi k + (T.getD k default).r * clkW T lo hi k ≤ 100000 * (clkU T lo hi k + clkW T lo hi k)
    rw [g]
    omega
theorem clkS_max {T : List Ox} (hT : OxOk T) {lo hi : Int} (h0 : 0 ≤ lo) (h1 : lo ≤ hi) (h2 : hi ≤ 31100000) {k : Nat} (hk : k ≤ T.length) : 0 ≤ clkS T lo hi k ∧ clkS T lo hi k ≤ 3110000000000 := by
  have a := clkS_bd hT h0 h1 k hk
  have b := clkU_bd hT h0 h1 k hk
  omega
set_option maxRecDepth 100000 in
set_option maxHeartbeats 4000000 in
theorem clock_is (x : Pl) (T : List Ox) (A : Option Addr) (n cap : Nat) (q : Int) (w : World) (hn : Hid (n = T.length)) (hT : Hid (SlRows oxV 2 w A T)) (hox : Hid (OxOk T)) (hok : Hid (PlOk x)) (hq : Hid (clkV T x.s (oxLo x) (oxHi x) = q)) :
    Calls Tryz.prog 43 #[.agg #[.int .i64 x.s, .int .i64 x.d, .int .i64 x.g, .int .i64 x.nu, .int .i64 x.bs, .int .i64 x.bd, .int .i64 x.su, .int .i64 x.o, .int .i64 x.h], .slice A n cap] w fun e w' => e = .returned (.int .i64 q) ∧ Below w.heap.size w w' := by
  have n20 : n ≤ 20 := by have := hox.out.l; have := hn.out; omega
  have bo := ox_bd hok.out
  have asx := hok.out.s
  obtain ⟨lo, hlo⟩ : ∃ z, Hid (oxLo x = z) := ⟨_, Lib.hid rfl⟩
  obtain ⟨hi, hhi⟩ : ∃ z, Hid (oxHi x = z) := ⟨_, Lib.hid rfl⟩
  have hq1 := hq.out
  rw [hlo.out, hhi.out] at bo hq1
  obtain ⟨b0, b1, b2'⟩ := bo
  unfold clkV at hq1
  have A9 := BlkF.made (B := w.heap.size) w [.int .i64 x.s, .int .i64 x.d, .int .i64 x.g, .int .i64 x.nu, .int .i64 x.bs, .int .i64 x.bd, .int .i64 x.su, .int .i64 x.o, .int .i64 x.h] 96 (Nat.le_refl _)
  clear hq
  go_enter Tryz.func43, Tryz.ntmps43
  go_wp2_with fail
  refine (oxygen_is x lo hi _ hok hlo hhi).mono ?_
  rintro e x1 ⟨rfl, hb1⟩
  replace A9 := A9.below hb1
  have hB1 : Below w.heap.size w x1 := (by (repeat (first | (with_reducible refine Below.drew ?_) | (with_reducible refine below_drewN ?_ _) | (with_reducible refine Below.alloc ?_ (by first | omega | (simp; done) | (simp; omega) | (simp at *; omega)) _) | (with_reducible refine Below.setCell ?_ (by first | omega | (simp; done) | (simp; omega) | (simp at *; omega)) _) | (with_reducible exact Below.refl _ _) | (with_reducible assumption) | (with_reducible refine Below.trans ?_ (Below.mono (by assumption) (by first | omega | (simp; done) | (simp; omega) | (simp at *; omega)))))))
  clear hb1
  by_cases hlh : lo = hi
  · rw [if_pos hlh] at hq1
    obtain ⟨rv, hrv⟩ : ∃ z, Hid (rateV T lo = z) := ⟨_, Lib.hid rfl⟩
    have rb : 0 ≤ rv ∧ rv ≤ 100000 := by have := rateG_bd hox.out lo T.length (Nat.le_refl _); rw [← hrv.out]; exact this
    rw [hrv.out] at hq1
    have HQ := Lib.hid hq1
    have pb := mul_bd (show 0 ≤ x.s by omega) asx.2 rb.1 rb.2
    have w1 : IntKind.i64.wrap (x.s * rv) = x.s * rv := IntWalk.i64_in _ (by omega)
    have e1 : (lo == hi) = true := by simpa using hlh
    clear hq1 pb
    subst hlh
    go_upto_region 3 with (fail)
    refine wp_worldE (fun u => BlkF u w.heap.size w.heap.size [.int .i64 x.s, .int .i64 x.d, .int .i64 x.g, .int .i64 x.nu, .int .i64 x.bs, .int .i64 x.bd, .int .i64 x.su, .int .i64 x.o, .int .i64 x.h] ∧ BlkF u w.heap.size x1.heap.size [.int .i64 lo, .int .i64 lo] ∧ Below w.heap.size w u) ⟨A9.below (Below.alloc (Below.refl _ _) (Nat.le_refl _) _), BlkF.made x1 [.int .i64 lo, .int .i64 lo] 62 hB1.size, hB1.alloc hB1.size _⟩ (fun u hu => ?_)
    clear A9
    obtain ⟨A9, A3, hB0⟩ := hu
    have hl0 := A9.lt
    have hl1 := A3.lt
    have c0 := A9.at' 0 _ rfl
    have d0 := (b2 A3).1
    have HS : Hid (∀ y, Below u.heap.size u y → y.cell? ⟨w.heap.size, 0, none⟩ = some (.int .i64 x.s) ∧ y.cell? ⟨x1.heap.size, 0, none⟩ = some (.int .i64 lo)) := Lib.hid fun y hy => ⟨(hy.cell (p := ⟨w.heap.size, 0, none⟩) hl0).trans c0, (hy.cell (p := ⟨x1.heap.size, 0, none⟩) hl1).trans d0⟩
    clear A9 A3 c0 d0 hB1
    refine wp_region_held_drew (S := (fun w' => w'.cell? ⟨w.heap.size, 0, none⟩ = some (.int .i64 x.s) ∧ w'.cell? ⟨x1.heap.size, 0, none⟩ = some (.int .i64 lo))) (by kernel_rfl) (HS.out _ (Below.refl _ _).drew) (fun hHeld => ?_)
    have hT0 : Below u.heap.size u u.drew := (Below.refl _ _).drew
    generalize hdr : u.drew = v0 at *
    clear hdr
    refine tkH 0 ⟨some 17, _, _, _, _, _⟩ ?_ rfl ?_ (by assumption) ?_
    rotate_left
    · (intro w hSw; (try dsimp only at hSw); go_simp; all_goals with_reducible rfl)
    try simp only [Act.put, sA, sB, sC]
    refine tkH 1 ⟨some 18, _, _, _, _, _⟩ ?_ rfl ?_ (by assumption) ?_
    rotate_left
    · (intro w hSw; (try dsimp only at hSw); go_simp; all_goals with_reducible rfl)
    try simp only [Act.put, sA, sB, sC]
    refine tkH 2 ⟨some 19, _, _, _, _, _⟩ ?_ rfl ?_ (by assumption) ?_
    rotate_left
    · (intro w hSw; (try dsimp only at hSw); go_simp; all_goals with_reducible rfl)
    try simp only [Act.put, sA, sB, sC]
    refine tkH 3 ⟨some 20, _, _, _, _, _⟩ ?_ rfl ?_ (by assumption) ?_
    rotate_left
    · (intro w hSw; (try dsimp only at hSw); go_simp; all_goals with_reducible rfl)
    try simp only [Act.put, sA, sB, sC]
    refine tkH 4 ⟨some 21, _, _, _, _, _⟩ ?_ rfl ?_ (by assumption) ?_
    rotate_left
    · (intro w hSw; (try dsimp only at hSw); go_simp; all_goals with_reducible rfl)
    try simp only [Act.put, sA, sB, sC]
    refine tkH 5 ⟨some 22, _, _, _, _, _⟩ ?_ rfl ?_ (by assumption) ?_
    rotate_left
    · (intro w hSw; (try dsimp only at hSw); go_simp; all_goals with_reducible rfl)
    try simp only [Act.put, sA, sB, sC]
    refine wpAnyH_ready (rs := [6]) (by kernel_rfl) (by simp) ?_
    refine AllReadyH.cons rfl (fun K hK => ?_) (AllReadyH.nil)
    go_simp
    refine (rateAt_is T A n cap lo rv _ hn (Lib.hid (hT.out.below (hB0.trans (hT0.mono hB0.size)))) hox hrv).mono ?_
    rintro e v1 ⟨rfl, hbv0⟩
    have hT1 : Below u.heap.size u v1 := hT0.trans (hbv0.mono hT0.size)
    clear hbv0
    go_wp2_with fail
    refine hK.out _ _ (HS.out _ hT1) (fun hHeld => ?_)
    clear hK K
    try simp only [Act.put, sA, sB, sC]
    refine tkH 7 ⟨some 24, _, _, _, _, _⟩ ?_ rfl ?_ (by assumption) ?_
    rotate_left
    · (intro w hSw; (try dsimp only at hSw); go_simp; all_goals with_reducible rfl)
    try simp only [Act.put, sA, sB, sC]
    refine tkH 8 ⟨some 4, _, _, _, _, _⟩ ?_ rfl ?_ (by assumption) ?_
    rotate_left
    · (intro w hSw; (try dsimp only at hSw); go_simp; all_goals with_reducible rfl)
    try simp only [Act.put, sA, sB, sC]
    refine wpAnyH_done (by kernel_rfl) ?_ _
    have hTz := Lib.hid (hB0.trans (hT1.mono hB0.size))
    clear hHeld
    go_wp2
    go_ret
    exact ⟨ret_int HQ.out, hTz.out⟩
  · rw [if_neg hlh] at hq1
    have HQ := Lib.hid hq1
    have e1 : (lo == hi) = false := by simpa using hlh
    clear hq1
    go_wp2
    have Z9 := Lib.hid (A9.below (Below.alloc (Below.refl _ _) (Nat.le_refl _) (.cells #[.int .i64 lo, .int .i64 hi] 62)))
    have Z2 := Lib.hid (BlkF.made (B := w.heap.size) x1 [.int .i64 lo, .int .i64 hi] 62 hB1.size)
    have ZB := Lib.hid (hB1.alloc hB1.size (.cells #[.int .i64 lo, .int .i64 hi] 62))
    clear A9 hB1
    go_loopw [6, 27] (fun v i wr => ∃ (k : Nat) (z : Int), k ≤ n ∧ i = .int .i64 k ∧ v = .int .i64 z ∧ Hid (clkS T lo hi k = z) ∧ Hid (BlkF wr w.heap.size w.heap.size [.int .i64 x.s, .int .i64 x.d, .int .i64 x.g, .int .i64 x.nu, .int .i64 x.bs, .int .i64 x.bd, .int .i64 x.su, .int .i64 x.o, .int .i64 x.h]) ∧ Hid (BlkF wr w.heap.size x1.heap.size [.int .i64 lo, .int .i64 hi]) ∧ Hid (Below w.heap.size w wr)) (fun _ i _ => n - (intOf i).toNat)
    case atStart => exact ⟨0, 0, by omega, rfl, rfl, Lib.hid rfl, Z9, Z2, ZB⟩
    case round =>
      clear Z9 Z2 ZB
      obtain ⟨k, z, hk, rfl, rfl, hz, Z9, Z2, ZB⟩ := hrel
      have c0 := Z9.out.at' 0 _ rfl
      obtain ⟨d0, d1⟩ := b2 Z2.out
      have hl0 := Z9.out.lt
      have hl1 := Z2.out.lt
      have zb := clkS_max hox.out b0 b1 b2' (k := k) (by have := hn.out; omega)
      rw [hz.out] at zb
      by_cases hkn : k < n
      · have kn : (k : Int) < (n : Int) := by omega
        have hkT : k < T.length := by have := hn.out; omega
        have bk := hox.out.at' hkT
        obtain ⟨b, o, rfl, hlt, hR⟩ := (hT.out.below ZB.out).at' hkT
        obtain ⟨r0, r1⟩ := ox_at hR hkT
        obtain ⟨fr, hfr⟩ : ∃ z, Hid (T[k].f = z) := ⟨_, Lib.hid rfl⟩
        obtain ⟨rt, hrt⟩ : ∃ z, Hid (T[k].r = z) := ⟨_, Lib.hid rfl⟩
        rw [hfr.out] at r0
        rw [hrt.out] at r1
        rw [hfr.out, hrt.out] at bk
        obtain ⟨m9, hm9⟩ : ∃ z, Hid (1000 * fr = z) := ⟨_, Lib.hid rfl⟩
        have hw1 : IntKind.i64.wrap (1000 * fr) = m9 := by rw [IntWalk.i64_in _ (by omega)]; exact hm9.out
        have m0 : 0 ≤ m9 ∧ m9 ≤ 4000000 := by have := hm9.out; omega
        have hwk : IntKind.i64.wrap ((k : Int) + 1) = (k : Int) + 1 := IntWalk.i64_in _ (by omega)
        have hW : Hid (clkW T lo hi k = max 0 ((if k + 1 < T.length then min hi (1000 * (T.getD (k + 1) default).f) else hi) - max lo m9)) := Lib.hid (by unfold clkW; rw [getD_at hkT, hfr.out, hm9.out])
        have hS : Hid (clkS T lo hi (k + 1) = z + rt * clkW T lo hi k) := Lib.hid (by show clkS T lo hi k + (T.getD k default).r * clkW T lo hi k = _; rw [hz.out, getD_at hkT, hrt.out])
        have nl0 : w.heap.size ≠ wr.heap.size := by omega
        have nl1 : x1.heap.size ≠ wr.heap.size := by omega
        have hb9 : b ≠ wr.heap.size := by omega
        by_cases hk1 : k + 1 < n
        · have k1n : (k : Int) + 1 < (n : Int) := by omega
          have hk1T : k + 1 < T.length := by have := hn.out; omega
          have bn := hox.out.at' hk1T
          have n0 := (ox_at hR hk1T).1
          obtain ⟨nf, hnf⟩ : ∃ z, Hid (T[k + 1].f = z) := ⟨_, Lib.hid rfl⟩
          rw [hnf.out] at n0 bn
          obtain ⟨n9, hn9⟩ : ∃ z, Hid (1000 * nf = z) := ⟨_, Lib.hid rfl⟩
          have hw2 : IntKind.i64.wrap (1000 * nf) = n9 := by rw [IntWalk.i64_in _ (by omega)]; exact hn9.out
          have nb : 0 ≤ n9 ∧ n9 ≤ 4000000 := by have := hn9.out; omega
          have hW2 : Hid (clkW T lo hi k = max 0 (min hi n9 - max lo m9)) := Lib.hid (by rw [hW.out, if_pos hk1T, getD_at hk1T, hnf.out, hn9.out])
          have k10 : ¬ (k : Int) + 1 < 0 := by omega
          by_cases i1 : n9 < hi
          · skip
            by_cases i2 : lo < m9
            · skip
              obtain ⟨d9, hd9⟩ : ∃ z, Hid (n9 - m9 = z) := ⟨_, Lib.hid rfl⟩
              have hw3 : IntKind.i64.wrap (n9 - m9) = d9 := by rw [IntWalk.i64_in _ (by omega)]; exact hd9.out
              by_cases i3 : 0 < d9
              · skip
                have hWv : Hid (clkW T lo hi k = d9) := Lib.hid (by rw [hW2.out]; have := hd9.out; omega)
                have wb := clkW_bd hox.out b0 b1 k
                rw [hWv.out] at wb
                have pb := mul_bd bk.2.2.1 bk.2.2.2 wb.1 (show d9 ≤ 31100000 by omega)
                obtain ⟨p9, hp9⟩ : ∃ z, Hid (rt * d9 = z) := ⟨_, Lib.hid rfl⟩
                rw [hp9.out] at pb
                have hw4 : IntKind.i64.wrap (rt * d9) = p9 := by rw [IntWalk.i64_in _ (by rw [hp9.out]; omega)]; exact hp9.out
                obtain ⟨t9, ht9⟩ : ∃ y, Hid (z + p9 = y) := ⟨_, Lib.hid rfl⟩
                have hw5 : IntKind.i64.wrap (z + p9) = t9 := by rw [IntWalk.i64_in _ (by omega)]; exact ht9.out
                have hN : Hid (clkS T lo hi (k + 1) = t9) := Lib.hid (by rw [hS.out, hWv.out, hp9.out, ht9.out])
                clear pb wb
                clear hS hW hW2 hWv hR
                go_wp2
                go_roundw
                case rel => exact ⟨k + 1, t9, by omega, by go_num, rfl, hN, Lib.hid (Z9.out.below (by (repeat (first | (with_reducible refine Below.drew ?_) | (with_reducible refine below_drewN ?_ _) | (with_reducible refine Below.alloc ?_ (by first | omega | (simp; done) | (simp; omega) | (simp at *; omega)) _) | (with_reducible refine Below.setCell ?_ (by first | omega | (simp; done) | (simp; omega) | (simp at *; omega)) _) | (with_reducible exact Below.refl _ _) | (with_reducible assumption) | (with_reducible refine Below.trans ?_ (Below.mono (by assumption) (by first | omega | (simp; done) | (simp; omega) | (simp at *; omega)))))))), Lib.hid (Z2.out.below (by (repeat (first | (with_reducible refine Below.drew ?_) | (with_reducible refine below_drewN ?_ _) | (with_reducible refine Below.alloc ?_ (by first | omega | (simp; done) | (simp; omega) | (simp at *; omega)) _) | (with_reducible refine Below.setCell ?_ (by first | omega | (simp; done) | (simp; omega) | (simp at *; omega)) _) | (with_reducible exact Below.refl _ _) | (with_reducible assumption) | (with_reducible refine Below.trans ?_ (Below.mono (by assumption) (by first | omega | (simp; done) | (simp; omega) | (simp at *; omega)))))))), Lib.hid (show Below w.heap.size w _ from ZB.out.trans ((show Below wr.heap.size wr _ from (by (repeat (first | (with_reducible refine Below.drew ?_) | (with_reducible refine below_drewN ?_ _) | (with_reducible refine Below.alloc ?_ (by first | omega | (simp; done) | (simp; omega) | (simp at *; omega)) _) | (with_reducible refine Below.setCell ?_ (by first | omega | (simp; done) | (simp; omega) | (simp at *; omega)) _) | (with_reducible exact Below.refl _ _) | (with_reducible assumption) | (with_reducible refine Below.trans ?_ (Below.mono (by assumption) (by first | omega | (simp; done) | (simp; omega) | (simp at *; omega)))))))).mono ZB.out.size))⟩
                case measure => simp [intOf]; omega
              · skip
                have hWv : Hid (clkW T lo hi k = 0) := Lib.hid (by rw [hW2.out]; have := hd9.out; omega)
                have hw5 : IntKind.i64.wrap z = z := IntWalk.i64_in _ (by omega)
                have hN : Hid (clkS T lo hi (k + 1) = z) := Lib.hid (by rw [hS.out, hWv.out]; omega)
                clear hS hW hW2 hWv hR
                go_wp2
                go_roundw
                case rel => exact ⟨k + 1, z, by omega, by go_num, rfl, hN, Lib.hid (Z9.out.below (by (repeat (first | (with_reducible refine Below.drew ?_) | (with_reducible refine below_drewN ?_ _) | (with_reducible refine Below.alloc ?_ (by first | omega | (simp; done) | (simp; omega) | (simp at *; omega)) _) | (with_reducible refine Below.setCell ?_ (by first | omega | (simp; done) | (simp; omega) | (simp at *; omega)) _) | (with_reducible exact Below.refl _ _) | (with_reducible assumption) | (with_reducible refine Below.trans ?_ (Below.mono (by assumption) (by first | omega | (simp; done) | (simp; omega) | (simp at *; omega)))))))), Lib.hid (Z2.out.below (by (repeat (first | (with_reducible refine Below.drew ?_) | (with_reducible refine below_drewN ?_ _) | (with_reducible refine Below.alloc ?_ (by first | omega | (simp; done) | (simp; omega) | (simp at *; omega)) _) | (with_reducible refine Below.setCell ?_ (by first | omega | (simp; done) | (simp; omega) | (simp at *; omega)) _) | (with_reducible exact Below.refl _ _) | (with_reducible assumption) | (with_reducible refine Below.trans ?_ (Below.mono (by assumption) (by first | omega | (simp; done) | (simp; omega) | (simp at *; omega)))))))), Lib.hid (show Below w.heap.size w _ from ZB.out.trans ((show Below wr.heap.size wr _ from (by (repeat (first | (with_reducible refine Below.drew ?_) | (with_reducible refine below_drewN ?_ _) | (with_reducible refine Below.alloc ?_ (by first | omega | (simp; done) | (simp; omega) | (simp at *; omega)) _) | (with_reducible refine Below.setCell ?_ (by first | omega | (simp; done) | (simp; omega) | (simp at *; omega)) _) | (with_reducible exact Below.refl _ _) | (with_reducible assumption) | (with_reducible refine Below.trans ?_ (Below.mono (by assumption) (by first | omega | (simp; done) | (simp; omega) | (simp at *; omega)))))))).mono ZB.out.size))⟩
                case measure => simp [intOf]; omega
            · skip
              obtain ⟨d9, hd9⟩ : ∃ z, Hid (n9 - lo = z) := ⟨_, Lib.hid rfl⟩
              have hw3 : IntKind.i64.wrap (n9 - lo) = d9 := by rw [IntWalk.i64_in _ (by omega)]; exact hd9.out
              by_cases i3 : 0 < d9
              · skip
                have hWv : Hid (clkW T lo hi k = d9) := Lib.hid (by rw [hW2.out]; have := hd9.out; omega)
                have wb := clkW_bd hox.out b0 b1 k
                rw [hWv.out] at wb
                have pb := mul_bd bk.2.2.1 bk.2.2.2 wb.1 (show d9 ≤ 31100000 by omega)
                obtain ⟨p9, hp9⟩ : ∃ z, Hid (rt * d9 = z) := ⟨_, Lib.hid rfl⟩
                rw [hp9.out] at pb
                have hw4 : IntKind.i64.wrap (rt * d9) = p9 := by rw [IntWalk.i64_in _ (by rw [hp9.out]; omega)]; exact hp9.out
                obtain ⟨t9, ht9⟩ : ∃ y, Hid (z + p9 = y) := ⟨_, Lib.hid rfl⟩
                have hw5 : IntKind.i64.wrap (z + p9) = t9 := by rw [IntWalk.i64_in _ (by omega)]; exact ht9.out
                have hN : Hid (clkS T lo hi (k + 1) = t9) := Lib.hid (by rw [hS.out, hWv.out, hp9.out, ht9.out])
                clear pb wb
                clear hS hW hW2 hWv hR
                go_wp2
                go_roundw
                case rel => exact ⟨k + 1, t9, by omega, by go_num, rfl, hN, Lib.hid (Z9.out.below (by (repeat (first | (with_reducible refine Below.drew ?_) | (with_reducible refine below_drewN ?_ _) | (with_reducible refine Below.alloc ?_ (by first | omega | (simp; done) | (simp; omega) | (simp at *; omega)) _) | (with_reducible refine Below.setCell ?_ (by first | omega | (simp; done) | (simp; omega) | (simp at *; omega)) _) | (with_reducible exact Below.refl _ _) | (with_reducible assumption) | (with_reducible refine Below.trans ?_ (Below.mono (by assumption) (by first | omega | (simp; done) | (simp; omega) | (simp at *; omega)))))))), Lib.hid (Z2.out.below (by (repeat (first | (with_reducible refine Below.drew ?_) | (with_reducible refine below_drewN ?_ _) | (with_reducible refine Below.alloc ?_ (by first | omega | (simp; done) | (simp; omega) | (simp at *; omega)) _) | (with_reducible refine Below.setCell ?_ (by first | omega | (simp; done) | (simp; omega) | (simp at *; omega)) _) | (with_reducible exact Below.refl _ _) | (with_reducible assumption) | (with_reducible refine Below.trans ?_ (Below.mono (by assumption) (by first | omega | (simp; done) | (simp; omega) | (simp at *; omega)))))))), Lib.hid (show Below w.heap.size w _ from ZB.out.trans ((show Below wr.heap.size wr _ from (by (repeat (first | (with_reducible refine Below.drew ?_) | (with_reducible refine below_drewN ?_ _) | (with_reducible refine Below.alloc ?_ (by first | omega | (simp; done) | (simp; omega) | (simp at *; omega)) _) | (with_reducible refine Below.setCell ?_ (by first | omega | (simp; done) | (simp; omega) | (simp at *; omega)) _) | (with_reducible exact Below.refl _ _) | (with_reducible assumption) | (with_reducible refine Below.trans ?_ (Below.mono (by assumption) (by first | omega | (simp; done) | (simp; omega) | (simp at *; omega)))))))).mono ZB.out.size))⟩
                case measure => simp [intOf]; omega
              · skip
                have hWv : Hid (clkW T lo hi k = 0) := Lib.hid (by rw [hW2.out]; have := hd9.out; omega)
                have hw5 : IntKind.i64.wrap z = z := IntWalk.i64_in _ (by omega)
                have hN : Hid (clkS T lo hi (k + 1) = z) := Lib.hid (by rw [hS.out, hWv.out]; omega)
                clear hS hW hW2 hWv hR
                go_wp2
                go_roundw
                case rel => exact ⟨k + 1, z, by omega, by go_num, rfl, hN, Lib.hid (Z9.out.below (by (repeat (first | (with_reducible refine Below.drew ?_) | (with_reducible refine below_drewN ?_ _) | (with_reducible refine Below.alloc ?_ (by first | omega | (simp; done) | (simp; omega) | (simp at *; omega)) _) | (with_reducible refine Below.setCell ?_ (by first | omega | (simp; done) | (simp; omega) | (simp at *; omega)) _) | (with_reducible exact Below.refl _ _) | (with_reducible assumption) | (with_reducible refine Below.trans ?_ (Below.mono (by assumption) (by first | omega | (simp; done) | (simp; omega) | (simp at *; omega)))))))), Lib.hid (Z2.out.below (by (repeat (first | (with_reducible refine Below.drew ?_) | (with_reducible refine below_drewN ?_ _) | (with_reducible refine Below.alloc ?_ (by first | omega | (simp; done) | (simp; omega) | (simp at *; omega)) _) | (with_reducible refine Below.setCell ?_ (by first | omega | (simp; done) | (simp; omega) | (simp at *; omega)) _) | (with_reducible exact Below.refl _ _) | (with_reducible assumption) | (with_reducible refine Below.trans ?_ (Below.mono (by assumption) (by first | omega | (simp; done) | (simp; omega) | (simp at *; omega)))))))), Lib.hid (show Below w.heap.size w _ from ZB.out.trans ((show Below wr.heap.size wr _ from (by (repeat (first | (with_reducible refine Below.drew ?_) | (with_reducible refine below_drewN ?_ _) | (with_reducible refine Below.alloc ?_ (by first | omega | (simp; done) | (simp; omega) | (simp at *; omega)) _) | (with_reducible refine Below.setCell ?_ (by first | omega | (simp; done) | (simp; omega) | (simp at *; omega)) _) | (with_reducible exact Below.refl _ _) | (with_reducible assumption) | (with_reducible refine Below.trans ?_ (Below.mono (by assumption) (by first | omega | (simp; done) | (simp; omega) | (simp at *; omega)))))))).mono ZB.out.size))⟩
                case measure => simp [intOf]; omega
          · skip
            by_cases i2 : lo < m9
            · skip
              obtain ⟨d9, hd9⟩ : ∃ z, Hid (hi - m9 = z) := ⟨_, Lib.hid rfl⟩
              have hw3 : IntKind.i64.wrap (hi - m9) = d9 := by rw [IntWalk.i64_in _ (by omega)]; exact hd9.out
              by_cases i3 : 0 < d9
              · skip
                have hWv : Hid (clkW T lo hi k = d9) := Lib.hid (by rw [hW2.out]; have := hd9.out; omega)
                have wb := clkW_bd hox.out b0 b1 k
                rw [hWv.out] at wb
                have pb := mul_bd bk.2.2.1 bk.2.2.2 wb.1 (show d9 ≤ 31100000 by omega)
                obtain ⟨p9, hp9⟩ : ∃ z, Hid (rt * d9 = z) := ⟨_, Lib.hid rfl⟩
                rw [hp9.out] at pb
                have hw4 : IntKind.i64.wrap (rt * d9) = p9 := by rw [IntWalk.i64_in _ (by rw [hp9.out]; omega)]; exact hp9.out
                obtain ⟨t9, ht9⟩ : ∃ y, Hid (z + p9 = y) := ⟨_, Lib.hid rfl⟩
                have hw5 : IntKind.i64.wrap (z + p9) = t9 := by rw [IntWalk.i64_in _ (by omega)]; exact ht9.out
                have hN : Hid (clkS T lo hi (k + 1) = t9) := Lib.hid (by rw [hS.out, hWv.out, hp9.out, ht9.out])
                clear pb wb
                clear hS hW hW2 hWv hR
                go_wp2
                go_roundw
                case rel => exact ⟨k + 1, t9, by omega, by go_num, rfl, hN, Lib.hid (Z9.out.below (by (repeat (first | (with_reducible refine Below.drew ?_) | (with_reducible refine below_drewN ?_ _) | (with_reducible refine Below.alloc ?_ (by first | omega | (simp; done) | (simp; omega) | (simp at *; omega)) _) | (with_reducible refine Below.setCell ?_ (by first | omega | (simp; done) | (simp; omega) | (simp at *; omega)) _) | (with_reducible exact Below.refl _ _) | (with_reducible assumption) | (with_reducible refine Below.trans ?_ (Below.mono (by assumption) (by first | omega | (simp; done) | (simp; omega) | (simp at *; omega)))))))), Lib.hid (Z2.out.below (by (repeat (first | (with_reducible refine Below.drew ?_) | (with_reducible refine below_drewN ?_ _) | (with_reducible refine Below.alloc ?_ (by first | omega | (simp; done) | (simp; omega) | (simp at *; omega)) _) | (with_reducible refine Below.setCell ?_ (by first | omega | (simp; done) | (simp; omega) | (simp at *; omega)) _) | (with_reducible exact Below.refl _ _) | (with_reducible assumption) | (with_reducible refine Below.trans ?_ (Below.mono (by assumption) (by first | omega | (simp; done) | (simp; omega) | (simp at *; omega)))))))), Lib.hid (show Below w.heap.size w _ from ZB.out.trans ((show Below wr.heap.size wr _ from (by (repeat (first | (with_reducible refine Below.drew ?_) | (with_reducible refine below_drewN ?_ _) | (with_reducible refine Below.alloc ?_ (by first | omega | (simp; done) | (simp; omega) | (simp at *; omega)) _) | (with_reducible refine Below.setCell ?_ (by first | omega | (simp; done) | (simp; omega) | (simp at *; omega)) _) | (with_reducible exact Below.refl _ _) | (with_reducible assumption) | (with_reducible refine Below.trans ?_ (Below.mono (by assumption) (by first | omega | (simp; done) | (simp; omega) | (simp at *; omega)))))))).mono ZB.out.size))⟩
                case measure => simp [intOf]; omega
              · skip
                have hWv : Hid (clkW T lo hi k = 0) := Lib.hid (by rw [hW2.out]; have := hd9.out; omega)
                have hw5 : IntKind.i64.wrap z = z := IntWalk.i64_in _ (by omega)
                have hN : Hid (clkS T lo hi (k + 1) = z) := Lib.hid (by rw [hS.out, hWv.out]; omega)
                clear hS hW hW2 hWv hR
                go_wp2
                go_roundw
                case rel => exact ⟨k + 1, z, by omega, by go_num, rfl, hN, Lib.hid (Z9.out.below (by (repeat (first | (with_reducible refine Below.drew ?_) | (with_reducible refine below_drewN ?_ _) | (with_reducible refine Below.alloc ?_ (by first | omega | (simp; done) | (simp; omega) | (simp at *; omega)) _) | (with_reducible refine Below.setCell ?_ (by first | omega | (simp; done) | (simp; omega) | (simp at *; omega)) _) | (with_reducible exact Below.refl _ _) | (with_reducible assumption) | (with_reducible refine Below.trans ?_ (Below.mono (by assumption) (by first | omega | (simp; done) | (simp; omega) | (simp at *; omega)))))))), Lib.hid (Z2.out.below (by (repeat (first | (with_reducible refine Below.drew ?_) | (with_reducible refine below_drewN ?_ _) | (with_reducible refine Below.alloc ?_ (by first | omega | (simp; done) | (simp; omega) | (simp at *; omega)) _) | (with_reducible refine Below.setCell ?_ (by first | omega | (simp; done) | (simp; omega) | (simp at *; omega)) _) | (with_reducible exact Below.refl _ _) | (with_reducible assumption) | (with_reducible refine Below.trans ?_ (Below.mono (by assumption) (by first | omega | (simp; done) | (simp; omega) | (simp at *; omega)))))))), Lib.hid (show Below w.heap.size w _ from ZB.out.trans ((show Below wr.heap.size wr _ from (by (repeat (first | (with_reducible refine Below.drew ?_) | (with_reducible refine below_drewN ?_ _) | (with_reducible refine Below.alloc ?_ (by first | omega | (simp; done) | (simp; omega) | (simp at *; omega)) _) | (with_reducible refine Below.setCell ?_ (by first | omega | (simp; done) | (simp; omega) | (simp at *; omega)) _) | (with_reducible exact Below.refl _ _) | (with_reducible assumption) | (with_reducible refine Below.trans ?_ (Below.mono (by assumption) (by first | omega | (simp; done) | (simp; omega) | (simp at *; omega)))))))).mono ZB.out.size))⟩
                case measure => simp [intOf]; omega
            · skip
              obtain ⟨d9, hd9⟩ : ∃ z, Hid (hi - lo = z) := ⟨_, Lib.hid rfl⟩
              have hw3 : IntKind.i64.wrap (hi - lo) = d9 := by rw [IntWalk.i64_in _ (by omega)]; exact hd9.out
              by_cases i3 : 0 < d9
              · skip
                have hWv : Hid (clkW T lo hi k = d9) := Lib.hid (by rw [hW2.out]; have := hd9.out; omega)
                have wb := clkW_bd hox.out b0 b1 k
                rw [hWv.out] at wb
                have pb := mul_bd bk.2.2.1 bk.2.2.2 wb.1 (show d9 ≤ 31100000 by omega)
                obtain ⟨p9, hp9⟩ : ∃ z, Hid (rt * d9 = z) := ⟨_, Lib.hid rfl⟩
                rw [hp9.out] at pb
                have hw4 : IntKind.i64.wrap (rt * d9) = p9 := by rw [IntWalk.i64_in _ (by rw [hp9.out]; omega)]; exact hp9.out
                obtain ⟨t9, ht9⟩ : ∃ y, Hid (z + p9 = y) := ⟨_, Lib.hid rfl⟩
                have hw5 : IntKind.i64.wrap (z + p9) = t9 := by rw [IntWalk.i64_in _ (by omega)]; exact ht9.out
                have hN : Hid (clkS T lo hi (k + 1) = t9) := Lib.hid (by rw [hS.out, hWv.out, hp9.out, ht9.out])
                clear pb wb
                clear hS hW hW2 hWv hR
                go_wp2
                go_roundw
                case rel => exact ⟨k + 1, t9, by omega, by go_num, rfl, hN, Lib.hid (Z9.out.below (by (repeat (first | (with_reducible refine Below.drew ?_) | (with_reducible refine below_drewN ?_ _) | (with_reducible refine Below.alloc ?_ (by first | omega | (simp; done) | (simp; omega) | (simp at *; omega)) _) | (with_reducible refine Below.setCell ?_ (by first | omega | (simp; done) | (simp; omega) | (simp at *; omega)) _) | (with_reducible exact Below.refl _ _) | (with_reducible assumption) | (with_reducible refine Below.trans ?_ (Below.mono (by assumption) (by first | omega | (simp; done) | (simp; omega) | (simp at *; omega)))))))), Lib.hid (Z2.out.below (by (repeat (first | (with_reducible refine Below.drew ?_) | (with_reducible refine below_drewN ?_ _) | (with_reducible refine Below.alloc ?_ (by first | omega | (simp; done) | (simp; omega) | (simp at *; omega)) _) | (with_reducible refine Below.setCell ?_ (by first | omega | (simp; done) | (simp; omega) | (simp at *; omega)) _) | (with_reducible exact Below.refl _ _) | (with_reducible assumption) | (with_reducible refine Below.trans ?_ (Below.mono (by assumption) (by first | omega | (simp; done) | (simp; omega) | (simp at *; omega)))))))), Lib.hid (show Below w.heap.size w _ from ZB.out.trans ((show Below wr.heap.size wr _ from (by (repeat (first | (with_reducible refine Below.drew ?_) | (with_reducible refine below_drewN ?_ _) | (with_reducible refine Below.alloc ?_ (by first | omega | (simp; done) | (simp; omega) | (simp at *; omega)) _) | (with_reducible refine Below.setCell ?_ (by first | omega | (simp; done) | (simp; omega) | (simp at *; omega)) _) | (with_reducible exact Below.refl _ _) | (with_reducible assumption) | (with_reducible refine Below.trans ?_ (Below.mono (by assumption) (by first | omega | (simp; done) | (simp; omega) | (simp at *; omega)))))))).mono ZB.out.size))⟩
                case measure => simp [intOf]; omega
              · skip
                have hWv : Hid (clkW T lo hi k = 0) := Lib.hid (by rw [hW2.out]; have := hd9.out; omega)
                have hw5 : IntKind.i64.wrap z = z := IntWalk.i64_in _ (by omega)
                have hN : Hid (clkS T lo hi (k + 1) = z) := Lib.hid (by rw [hS.out, hWv.out]; omega)
                clear hS hW hW2 hWv hR
                go_wp2
                go_roundw
                case rel => exact ⟨k + 1, z, by omega, by go_num, rfl, hN, Lib.hid (Z9.out.below (by (repeat (first | (with_reducible refine Below.drew ?_) | (with_reducible refine below_drewN ?_ _) | (with_reducible refine Below.alloc ?_ (by first | omega | (simp; done) | (simp; omega) | (simp at *; omega)) _) | (with_reducible refine Below.setCell ?_ (by first | omega | (simp; done) | (simp; omega) | (simp at *; omega)) _) | (with_reducible exact Below.refl _ _) | (with_reducible assumption) | (with_reducible refine Below.trans ?_ (Below.mono (by assumption) (by first | omega | (simp; done) | (simp; omega) | (simp at *; omega)))))))), Lib.hid (Z2.out.below (by (repeat (first | (with_reducible refine Below.drew ?_) | (with_reducible refine below_drewN ?_ _) | (with_reducible refine Below.alloc ?_ (by first | omega | (simp; done) | (simp; omega) | (simp at *; omega)) _) | (with_reducible refine Below.setCell ?_ (by first | omega | (simp; done) | (simp; omega) | (simp at *; omega)) _) | (with_reducible exact Below.refl _ _) | (with_reducible assumption) | (with_reducible refine Below.trans ?_ (Below.mono (by assumption) (by first | omega | (simp; done) | (simp; omega) | (simp at *; omega)))))))), Lib.hid (show Below w.heap.size w _ from ZB.out.trans ((show Below wr.heap.size wr _ from (by (repeat (first | (with_reducible refine Below.drew ?_) | (with_reducible refine below_drewN ?_ _) | (with_reducible refine Below.alloc ?_ (by first | omega | (simp; done) | (simp; omega) | (simp at *; omega)) _) | (with_reducible refine Below.setCell ?_ (by first | omega | (simp; done) | (simp; omega) | (simp at *; omega)) _) | (with_reducible exact Below.refl _ _) | (with_reducible assumption) | (with_reducible refine Below.trans ?_ (Below.mono (by assumption) (by first | omega | (simp; done) | (simp; omega) | (simp at *; omega)))))))).mono ZB.out.size))⟩
                case measure => simp [intOf]; omega
        · have k1n : ¬ (k : Int) + 1 < (n : Int) := by omega
          have hW2 : Hid (clkW T lo hi k = max 0 (hi - max lo m9)) := Lib.hid (by rw [hW.out, if_neg (by have := hn.out; omega)])
          by_cases i2 : lo < m9
          · skip
            obtain ⟨d9, hd9⟩ : ∃ z, Hid (hi - m9 = z) := ⟨_, Lib.hid rfl⟩
            have hw3 : IntKind.i64.wrap (hi - m9) = d9 := by rw [IntWalk.i64_in _ (by omega)]; exact hd9.out
            by_cases i3 : 0 < d9
            · skip
              have hWv : Hid (clkW T lo hi k = d9) := Lib.hid (by rw [hW2.out]; have := hd9.out; omega)
              have wb := clkW_bd hox.out b0 b1 k
              rw [hWv.out] at wb
              have pb := mul_bd bk.2.2.1 bk.2.2.2 wb.1 (show d9 ≤ 31100000 by omega)
              obtain ⟨p9, hp9⟩ : ∃ z, Hid (rt * d9 = z) := ⟨_, Lib.hid rfl⟩
              rw [hp9.out] at pb
              have hw4 : IntKind.i64.wrap (rt * d9) = p9 := by rw [IntWalk.i64_in _ (by rw [hp9.out]; omega)]; exact hp9.out
              obtain ⟨t9, ht9⟩ : ∃ y, Hid (z + p9 = y) := ⟨_, Lib.hid rfl⟩
              have hw5 : IntKind.i64.wrap (z + p9) = t9 := by rw [IntWalk.i64_in _ (by omega)]; exact ht9.out
              have hN : Hid (clkS T lo hi (k + 1) = t9) := Lib.hid (by rw [hS.out, hWv.out, hp9.out, ht9.out])
              clear pb wb
              clear hS hW hW2 hWv hR
              go_wp2
              go_roundw
              case rel => exact ⟨k + 1, t9, by omega, by go_num, rfl, hN, Lib.hid (Z9.out.below (by (repeat (first | (with_reducible refine Below.drew ?_) | (with_reducible refine below_drewN ?_ _) | (with_reducible refine Below.alloc ?_ (by first | omega | (simp; done) | (simp; omega) | (simp at *; omega)) _) | (with_reducible refine Below.setCell ?_ (by first | omega | (simp; done) | (simp; omega) | (simp at *; omega)) _) | (with_reducible exact Below.refl _ _) | (with_reducible assumption) | (with_reducible refine Below.trans ?_ (Below.mono (by assumption) (by first | omega | (simp; done) | (simp; omega) | (simp at *; omega)))))))), Lib.hid (Z2.out.below (by (repeat (first | (with_reducible refine Below.drew ?_) | (with_reducible refine below_drewN ?_ _) | (with_reducible refine Below.alloc ?_ (by first | omega | (simp; done) | (simp; omega) | (simp at *; omega)) _) | (with_reducible refine Below.setCell ?_ (by first | omega | (simp; done) | (simp; omega) | (simp at *; omega)) _) | (with_reducible exact Below.refl _ _) | (with_reducible assumption) | (with_reducible refine Below.trans ?_ (Below.mono (by assumption) (by first | omega | (simp; done) | (simp; omega) | (simp at *; omega)))))))), Lib.hid (show Below w.heap.size w _ from ZB.out.trans ((show Below wr.heap.size wr _ from (by (repeat (first | (with_reducible refine Below.drew ?_) | (with_reducible refine below_drewN ?_ _) | (with_reducible refine Below.alloc ?_ (by first | omega | (simp; done) | (simp; omega) | (simp at *; omega)) _) | (with_reducible refine Below.setCell ?_ (by first | omega | (simp; done) | (simp; omega) | (simp at *; omega)) _) | (with_reducible exact Below.refl _ _) | (with_reducible assumption) | (with_reducible refine Below.trans ?_ (Below.mono (by assumption) (by first | omega | (simp; done) | (simp; omega) | (simp at *; omega)))))))).mono ZB.out.size))⟩
              case measure => simp [intOf]; omega
            · skip
              have hWv : Hid (clkW T lo hi k = 0) := Lib.hid (by rw [hW2.out]; have := hd9.out; omega)
              have hw5 : IntKind.i64.wrap z = z := IntWalk.i64_in _ (by omega)
              have hN : Hid (clkS T lo hi (k + 1) = z) := Lib.hid (by rw [hS.out, hWv.out]; omega)
              clear hS hW hW2 hWv hR
              go_wp2
              go_roundw
              case rel => exact ⟨k + 1, z, by omega, by go_num, rfl, hN, Lib.hid (Z9.out.below (by (repeat (first | (with_reducible refine Below.drew ?_) | (with_reducible refine below_drewN ?_ _) | (with_reducible refine Below.alloc ?_ (by first | omega | (simp; done) | (simp; omega) | (simp at *; omega)) _) | (with_reducible refine Below.setCell ?_ (by first | omega | (simp; done) | (simp; omega) | (simp at *; omega)) _) | (with_reducible exact Below.refl _ _) | (with_reducible assumption) | (with_reducible refine Below.trans ?_ (Below.mono (by assumption) (by first | omega | (simp; done) | (simp; omega) | (simp at *; omega)))))))), Lib.hid (Z2.out.below (by (repeat (first | (with_reducible refine Below.drew ?_) | (with_reducible refine below_drewN ?_ _) | (with_reducible refine Below.alloc ?_ (by first | omega | (simp; done) | (simp; omega) | (simp at *; omega)) _) | (with_reducible refine Below.setCell ?_ (by first | omega | (simp; done) | (simp; omega) | (simp at *; omega)) _) | (with_reducible exact Below.refl _ _) | (with_reducible assumption) | (with_reducible refine Below.trans ?_ (Below.mono (by assumption) (by first | omega | (simp; done) | (simp; omega) | (simp at *; omega)))))))), Lib.hid (show Below w.heap.size w _ from ZB.out.trans ((show Below wr.heap.size wr _ from (by (repeat (first | (with_reducible refine Below.drew ?_) | (with_reducible refine below_drewN ?_ _) | (with_reducible refine Below.alloc ?_ (by first | omega | (simp; done) | (simp; omega) | (simp at *; omega)) _) | (with_reducible refine Below.setCell ?_ (by first | omega | (simp; done) | (simp; omega) | (simp at *; omega)) _) | (with_reducible exact Below.refl _ _) | (with_reducible assumption) | (with_reducible refine Below.trans ?_ (Below.mono (by assumption) (by first | omega | (simp; done) | (simp; omega) | (simp at *; omega)))))))).mono ZB.out.size))⟩
              case measure => simp [intOf]; omega
          · skip
            obtain ⟨d9, hd9⟩ : ∃ z, Hid (hi - lo = z) := ⟨_, Lib.hid rfl⟩
            have hw3 : IntKind.i64.wrap (hi - lo) = d9 := by rw [IntWalk.i64_in _ (by omega)]; exact hd9.out
            by_cases i3 : 0 < d9
            · skip
              have hWv : Hid (clkW T lo hi k = d9) := Lib.hid (by rw [hW2.out]; have := hd9.out; omega)
              have wb := clkW_bd hox.out b0 b1 k
              rw [hWv.out] at wb
              have pb := mul_bd bk.2.2.1 bk.2.2.2 wb.1 (show d9 ≤ 31100000 by omega)
              obtain ⟨p9, hp9⟩ : ∃ z, Hid (rt * d9 = z) := ⟨_, Lib.hid rfl⟩
              rw [hp9.out] at pb
              have hw4 : IntKind.i64.wrap (rt * d9) = p9 := by rw [IntWalk.i64_in _ (by rw [hp9.out]; omega)]; exact hp9.out
              obtain ⟨t9, ht9⟩ : ∃ y, Hid (z + p9 = y) := ⟨_, Lib.hid rfl⟩
              have hw5 : IntKind.i64.wrap (z + p9) = t9 := by rw [IntWalk.i64_in _ (by omega)]; exact ht9.out
              have hN : Hid (clkS T lo hi (k + 1) = t9) := Lib.hid (by rw [hS.out, hWv.out, hp9.out, ht9.out])
              clear pb wb
              clear hS hW hW2 hWv hR
              go_wp2
              go_roundw
              case rel => exact ⟨k + 1, t9, by omega, by go_num, rfl, hN, Lib.hid (Z9.out.below (by (repeat (first | (with_reducible refine Below.drew ?_) | (with_reducible refine below_drewN ?_ _) | (with_reducible refine Below.alloc ?_ (by first | omega | (simp; done) | (simp; omega) | (simp at *; omega)) _) | (with_reducible refine Below.setCell ?_ (by first | omega | (simp; done) | (simp; omega) | (simp at *; omega)) _) | (with_reducible exact Below.refl _ _) | (with_reducible assumption) | (with_reducible refine Below.trans ?_ (Below.mono (by assumption) (by first | omega | (simp; done) | (simp; omega) | (simp at *; omega)))))))), Lib.hid (Z2.out.below (by (repeat (first | (with_reducible refine Below.drew ?_) | (with_reducible refine below_drewN ?_ _) | (with_reducible refine Below.alloc ?_ (by first | omega | (simp; done) | (simp; omega) | (simp at *; omega)) _) | (with_reducible refine Below.setCell ?_ (by first | omega | (simp; done) | (simp; omega) | (simp at *; omega)) _) | (with_reducible exact Below.refl _ _) | (with_reducible assumption) | (with_reducible refine Below.trans ?_ (Below.mono (by assumption) (by first | omega | (simp; done) | (simp; omega) | (simp at *; omega)))))))), Lib.hid (show Below w.heap.size w _ from ZB.out.trans ((show Below wr.heap.size wr _ from (by (repeat (first | (with_reducible refine Below.drew ?_) | (with_reducible refine below_drewN ?_ _) | (with_reducible refine Below.alloc ?_ (by first | omega | (simp; done) | (simp; omega) | (simp at *; omega)) _) | (with_reducible refine Below.setCell ?_ (by first | omega | (simp; done) | (simp; omega) | (simp at *; omega)) _) | (with_reducible exact Below.refl _ _) | (with_reducible assumption) | (with_reducible refine Below.trans ?_ (Below.mono (by assumption) (by first | omega | (simp; done) | (simp; omega) | (simp at *; omega)))))))).mono ZB.out.size))⟩
              case measure => simp [intOf]; omega
            · skip
              have hWv : Hid (clkW T lo hi k = 0) := Lib.hid (by rw [hW2.out]; have := hd9.out; omega)
              have hw5 : IntKind.i64.wrap z = z := IntWalk.i64_in _ (by omega)
              have hN : Hid (clkS T lo hi (k + 1) = z) := Lib.hid (by rw [hS.out, hWv.out]; omega)
              clear hS hW hW2 hWv hR
              go_wp2
              go_roundw
              case rel => exact ⟨k + 1, z, by omega, by go_num, rfl, hN, Lib.hid (Z9.out.below (by (repeat (first | (with_reducible refine Below.drew ?_) | (with_reducible refine below_drewN ?_ _) | (with_reducible refine Below.alloc ?_ (by first | omega | (simp; done) | (simp; omega) | (simp at *; omega)) _) | (with_reducible refine Below.setCell ?_ (by first | omega | (simp; done) | (simp; omega) | (simp at *; omega)) _) | (with_reducible exact Below.refl _ _) | (with_reducible assumption) | (with_reducible refine Below.trans ?_ (Below.mono (by assumption) (by first | omega | (simp; done) | (simp; omega) | (simp at *; omega)))))))), Lib.hid (Z2.out.below (by (repeat (first | (with_reducible refine Below.drew ?_) | (with_reducible refine below_drewN ?_ _) | (with_reducible refine Below.alloc ?_ (by first | omega | (simp; done) | (simp; omega) | (simp at *; omega)) _) | (with_reducible refine Below.setCell ?_ (by first | omega | (simp; done) | (simp; omega) | (simp at *; omega)) _) | (with_reducible exact Below.refl _ _) | (with_reducible assumption) | (with_reducible refine Below.trans ?_ (Below.mono (by assumption) (by first | omega | (simp; done) | (simp; omega) | (simp at *; omega)))))))), Lib.hid (show Below w.heap.size w _ from ZB.out.trans ((show Below wr.heap.size wr _ from (by (repeat (first | (with_reducible refine Below.drew ?_) | (with_reducible refine below_drewN ?_ _) | (with_reducible refine Below.alloc ?_ (by first | omega | (simp; done) | (simp; omega) | (simp at *; omega)) _) | (with_reducible refine Below.setCell ?_ (by first | omega | (simp; done) | (simp; omega) | (simp at *; omega)) _) | (with_reducible exact Below.refl _ _) | (with_reducible assumption) | (with_reducible refine Below.trans ?_ (Below.mono (by assumption) (by first | omega | (simp; done) | (simp; omega) | (simp at *; omega)))))))).mono ZB.out.size))⟩
              case measure => simp [intOf]; omega
      · have kn : ¬ (k : Int) < (n : Int) := by omega
        have hkl : k = T.length := by have := hn.out; omega
        have HQ2 : Hid (upE (x.s * z) (hi - lo) = q) := Lib.hid (by rw [← HQ.out, ← hkl, hz.out])
        have p := mul_bd (show 0 ≤ x.s by omega) asx.2 zb.1 zb.2
        have w1 : IntKind.i64.wrap (x.s * z) = x.s * z := IntWalk.i64_in _ (by omega)
        have w2 : IntKind.i64.wrap (hi - lo) = hi - lo := IntWalk.i64_in _ (by omega)
        go_wp2_with fail
        refine (dividedUp_is _ (hi - lo) q _ p.1 (by omega) (by omega) (by omega) HQ2).mono ?_
        rintro e x2 ⟨rfl, rfl⟩
        go_wp2
        go_ret
        exact ⟨rfl, ZB.out⟩
end Go.Proofs.YtijdphlejokijaaGreat
