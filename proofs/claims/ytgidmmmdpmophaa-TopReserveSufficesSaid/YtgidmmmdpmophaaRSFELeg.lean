import Derived.Test.YtgidmmmdpmophaaRSFEBr
import Derived.Outline
namespace Go.Proofs.Ytgidmmmdpmophaa
open Go.ChangeShapes Go.WideShapes Go.ChangeAt Go.RowKit
set_option linter.unusedVariables false
set_option linter.unusedSimpArgs false
attribute [local go_sem ↓] Go.wp_at_zero Go.wp_at_succ
/-- A leg with where it begins. -/
def legK (s : Int) (G : List Ga) (D : List Le) (k : Nat) : Pl := ⟨(D.getD k default).s, (D.getD k default).d, (D.getD k default).g, k, (ptK D k).s, (ptK D k).d, s, (G.getD (D.getD k default).g.toNat default).o, (G.getD (D.getD k default).g.toNat default).h⟩
theorem legK_ok {nm : ByteArray} {s : Int} {G : List Ga} {D : List Le} (h : PlnOk nm s G D) {k : Nat} (hk : k < D.length) : PlOk (legK s G D k) := by
  obtain ⟨l1, l2, l3, l4, l5, l6⟩ := h.le _ (List.getElem_mem hk)
  have e := getD_leE hk
  have hg : D[k].g.toNat < G.length := by omega
  refine ⟨by show 1 ≤ (D.getD k default).s ∧ (D.getD k default).s ≤ 1000000; rw [e]; exact ⟨l1, l2⟩, by show 0 ≤ (D.getD k default).d ∧ (D.getD k default).d ≤ 30000; rw [e]; exact ⟨l3, l4⟩, ?_, ?_, h.su, ?_⟩
  · show 0 ≤ (ptK D k).d ∧ (ptK D k).d ≤ 30000
    unfold ptK
    by_cases h0 : k = 0
    · rw [if_pos h0]; exact ⟨Int.le_refl _, (by decide : (0 : Int) ≤ 30000)⟩
    · rw [if_neg h0]
      have hp : k - 1 < D.length := by omega
      have := h.le _ (List.getElem_mem hp)
      rw [getD_leE hp]
      exact ⟨this.2.2.1, this.2.2.2.1⟩
  · exact h.sec k
  · show gasE (G.getD (D.getD k default).g.toNat default).o (G.getD (D.getD k default).g.toNat default).h = 0
    rw [e, List.getD_eq_getElem?_getD, List.getElem?_eq_getElem hg]
    exact h.ga _ (List.getElem_mem hg)
set_option maxRecDepth 100000 in
set_option maxHeartbeats 4000000 in
theorem leg_is (nm : ByteArray) (s : Int) (G : List Ga) (D : List Le) (A B P : Option Addr) (gn gc dn dc pc : Nat) (E9 : Int) (k : Nat) (w : World) (hgn : Hid (gn = G.length)) (hdn : Hid (dn = D.length)) (hok : Hid (PlnOk nm s G D)) (hk : k < dn) (hG : Hid (SlRows gaV 2 w A G)) (hD : Hid (SlRows leV 3 w B D)) (hP : Hid (SlRows ptV 2 w P (ptL D (dn + 1)))) :
    Calls Try.prog 61 #[.agg #[.string nm, .int .i64 s, .slice A gn gc, .slice B dn dc, .slice P (dn + 1) pc, .int .i64 E9], .int .i64 (k : Int)] w fun e w' => e = .returned (.agg #[.int .i64 (legK s G D k).s, .int .i64 (legK s G D k).d, .int .i64 (legK s G D k).g, .int .i64 (legK s G D k).nu, .int .i64 (legK s G D k).bs, .int .i64 (legK s G D k).bd, .int .i64 (legK s G D k).su, .int .i64 (legK s G D k).o, .int .i64 (legK s G D k).h]) ∧ Below w.heap.size w w' := by
  have hkD : k < D.length := by have := hdn.out; omega
  have d60 : dn ≤ 60 := by have := hok.out.d6; have := hdn.out; omega
  obtain ⟨l1, l2, l3, l4, l5, l6⟩ := hok.out.le _ (List.getElem_mem hkD)
  obtain ⟨gk, hgk⟩ : ∃ g : Nat, D[k].g = g := ⟨D[k].g.toNat, (Int.toNat_of_nonneg l5).symm⟩
  have hgG : gk < G.length := by omega
  have hg8 := hok.out.g8
  obtain ⟨gb, gf, rfl, hlg, hGR⟩ := hG.out.at' hgG
  obtain ⟨lb, lo, rfl, hll, hDR⟩ := hD.out.at' hkD
  obtain ⟨pb, po, rfl, hlp, hPR⟩ := hP.out.at' (k := k) (by rw [ptL_len]; omega)
  obtain ⟨g0, g1⟩ := ga_at hGR hgG
  obtain ⟨f0, f1, f2⟩ := le_at hDR hkD
  obtain ⟨p0, p1⟩ := pt_at hPR (k := k) (by rw [ptL_len]; omega)
  rw [ptL_at] at p0 p1
  obtain ⟨s9, hs9⟩ : ∃ z, Hid (D[k].s = z) := ⟨_, Lib.hid rfl⟩
  obtain ⟨d9, hd9⟩ : ∃ z, Hid (D[k].d = z) := ⟨_, Lib.hid rfl⟩
  obtain ⟨ps, hps⟩ : ∃ z, Hid ((ptK D k).s = z) := ⟨_, Lib.hid rfl⟩
  obtain ⟨pd, hpd⟩ : ∃ z, Hid ((ptK D k).d = z) := ⟨_, Lib.hid rfl⟩
  obtain ⟨go, hgo⟩ : ∃ z, Hid (G[gk].o = z) := ⟨_, Lib.hid rfl⟩
  obtain ⟨gh, hgh⟩ : ∃ z, Hid (G[gk].h = z) := ⟨_, Lib.hid rfl⟩
  have hVV : Hid (Ending.returned (.agg #[.int .i64 s9, .int .i64 d9, .int .i64 (gk : Int), .int .i64 (k : Int), .int .i64 ps, .int .i64 pd, .int .i64 s, .int .i64 go, .int .i64 gh]) = .returned (.agg #[.int .i64 (legK s G D k).s, .int .i64 (legK s G D k).d, .int .i64 (legK s G D k).g, .int .i64 (legK s G D k).nu, .int .i64 (legK s G D k).bs, .int .i64 (legK s G D k).bd, .int .i64 (legK s G D k).su, .int .i64 (legK s G D k).o, .int .i64 (legK s G D k).h])) := Lib.hid (by
    have e := getD_leE hkD
    have e2 : G.getD gk default = G[gk] := by rw [List.getD_eq_getElem?_getD, List.getElem?_eq_getElem hgG]; rfl
    simp only [legK, e, hgk, Int.toNat_natCast, e2, hs9.out, hd9.out, hps.out, hpd.out, hgo.out, hgh.out])
  rw [hs9.out] at f0
  rw [hd9.out] at f1
  rw [hgk] at f2
  rw [hps.out] at p0
  rw [hpd.out] at p1
  rw [hgo.out] at g0
  rw [hgh.out] at g1
  have kn : (k : Int) < (dn : Int) := by omega
  have kn1 : (k : Int) < ((dn + 1 : Nat) : Int) := by omega
  have kn2 : (k : Int) < (dn : Int) + 1 := by omega
  have gn1 : (gk : Int) < (gn : Int) := by have := hgn.out; omega
  clear l1 l2 l3 l4 l5 l6 hgk hGR hDR hPR hg8
  have A6 := ((BlkF.made (B := w.heap.size) w [.string nm, .int .i64 s, .slice (some ⟨gb, gf, none⟩) gn gc, .slice (some ⟨lb, lo, none⟩) dn dc, .slice (some ⟨pb, po, none⟩) (dn + 1) pc, .int .i64 E9] 67 (Nat.le_refl _)).below (Below.alloc (Below.refl _ _) (Nat.le_refl _) (.cells #[.int .i64 0, .int .i64 0, .int .i64 0, .int .i64 0, .int .i64 0, .int .i64 0, .int .i64 0, .int .i64 0, .int .i64 0] 94))).below (Below.alloc (Below.refl _ _) (Nat.le_refl _) (.cells #[.int .i64 s9, .int .i64 d9, .int .i64 (gk : Int)] 64))
  have A9 := (BlkF.made (B := w.heap.size) (w.alloc (.cells #[.string nm, .int .i64 s, .slice (some ⟨gb, gf, none⟩) gn gc, .slice (some ⟨lb, lo, none⟩) dn dc, .slice (some ⟨pb, po, none⟩) (dn + 1) pc, .int .i64 E9] 67)) [.int .i64 0, .int .i64 0, .int .i64 0, .int .i64 0, .int .i64 0, .int .i64 0, .int .i64 0, .int .i64 0, .int .i64 0] 94 (by simp)).below (Below.alloc (Below.refl _ _) (Nat.le_refl _) (.cells #[.int .i64 s9, .int .i64 d9, .int .i64 (gk : Int)] 64))
  have A3 := BlkF.made (B := w.heap.size) ((w.alloc (.cells #[.string nm, .int .i64 s, .slice (some ⟨gb, gf, none⟩) gn gc, .slice (some ⟨lb, lo, none⟩) dn dc, .slice (some ⟨pb, po, none⟩) (dn + 1) pc, .int .i64 E9] 67)).alloc (.cells #[.int .i64 0, .int .i64 0, .int .i64 0, .int .i64 0, .int .i64 0, .int .i64 0, .int .i64 0, .int .i64 0, .int .i64 0] 94)) [.int .i64 s9, .int .i64 d9, .int .i64 (gk : Int)] 64 (by simp; omega)
  rw [show (w.alloc (.cells #[.string nm, .int .i64 s, .slice (some ⟨gb, gf, none⟩) gn gc, .slice (some ⟨lb, lo, none⟩) dn dc, .slice (some ⟨pb, po, none⟩) (dn + 1) pc, .int .i64 E9] 67)).heap.size = w.heap.size + 1 by simp] at A9
  rw [show ((w.alloc (.cells #[.string nm, .int .i64 s, .slice (some ⟨gb, gf, none⟩) gn gc, .slice (some ⟨lb, lo, none⟩) dn dc, .slice (some ⟨pb, po, none⟩) (dn + 1) pc, .int .i64 E9] 67)).alloc (.cells #[.int .i64 0, .int .i64 0, .int .i64 0, .int .i64 0, .int .i64 0, .int .i64 0, .int .i64 0, .int .i64 0, .int .i64 0] 94)).heap.size = w.heap.size + 1 + 1 by simp] at A3
  go_enter Try.func61, Try.ntmps61
  go_upto_region 2 with (fail)
  obtain ⟨rb, hrb⟩ : ∃ b, w.heap.size + 1 = b := ⟨_, rfl⟩
  obtain ⟨lv, hlv⟩ : ∃ b, w.heap.size + 1 + 1 = b := ⟨_, rfl⟩
  rw [hrb] at A9
  rw [hlv] at A3
  refine wp_worldE (fun u => BlkF u w.heap.size w.heap.size [.string nm, .int .i64 s, .slice (some ⟨gb, gf, none⟩) gn gc, .slice (some ⟨lb, lo, none⟩) dn dc, .slice (some ⟨pb, po, none⟩) (dn + 1) pc, .int .i64 E9] ∧ BlkF u w.heap.size rb [.int .i64 0, .int .i64 0, .int .i64 0, .int .i64 0, .int .i64 0, .int .i64 0, .int .i64 0, .int .i64 0, .int .i64 0] ∧ BlkF u w.heap.size lv [.int .i64 s9, .int .i64 d9, .int .i64 (gk : Int)] ∧ Below w.heap.size w u) ⟨A6, A9, A3, (by (repeat (first | (with_reducible refine Below.drew ?_) | (with_reducible refine below_drewN ?_ _) | (with_reducible refine Below.alloc ?_ (by first | omega | (simp; done) | (simp; omega) | (simp at *; omega)) _) | (with_reducible refine Below.setCell ?_ (by first | omega | (simp; done) | (simp; omega) | (simp at *; omega)) _) | (with_reducible exact Below.refl _ _) | (with_reducible assumption) | (with_reducible refine Below.trans ?_ (Below.mono (by assumption) (by first | omega | (simp; done) | (simp; omega) | (simp at *; omega)))))))⟩ (fun u hu => ?_)
  try rw [hlv]
  try rw [hrb]
  have hne1 : rb ≠ w.heap.size := by omega
  have hne2 : lv ≠ rb := by omega
  have hrw : rb < w.heap.size + 2 := by omega
  have hge : w.heap.size ≤ rb := by omega
  clear A6 A9 A3 hrb hlv
  obtain ⟨A6, A9, A3, hB0⟩ := hu
  have HNrb := Lib.hid A9
  have hl0 := A6.lt
  have hl3 := A3.lt
  obtain ⟨c0, c1, c2, c3, c4, c5⟩ := b6 A6
  obtain ⟨e0, e1, e2⟩ := b3 A3
  have p0' := (hB0.cell (p := ⟨pb, po + k * 2, none⟩) hlp).trans p0
  have p1' := (hB0.cell (p := ⟨pb, po + k * 2 + 1, none⟩) hlp).trans p1
  have g0' := (hB0.cell (p := ⟨gb, gf + gk * 2, none⟩) hlg).trans g0
  have g1' := (hB0.cell (p := ⟨gb, gf + gk * 2 + 1, none⟩) hlg).trans g1
  have hlp0 := hlp
  have hlg0 := hlg
  replace hlp : pb < u.heap.size := Nat.lt_of_lt_of_le hlp hB0.size
  replace hlg : gb < u.heap.size := Nat.lt_of_lt_of_le hlg hB0.size
  have HS : Hid (∀ y, Below u.heap.size u y → y.cell? ⟨lv, 0, none⟩ = some (.int .i64 s9) ∧ y.cell? ⟨lv, 1, none⟩ = some (.int .i64 d9) ∧ y.cell? ⟨lv, 2, none⟩ = some (.int .i64 (gk : Int)) ∧ y.cell? ⟨w.heap.size, 0, none⟩ = some (.string nm) ∧ y.cell? ⟨w.heap.size, 1, none⟩ = some (.int .i64 s) ∧ y.cell? ⟨w.heap.size, 2, none⟩ = some (.slice (some ⟨gb, gf, none⟩) gn gc) ∧ y.cell? ⟨w.heap.size, 3, none⟩ = some (.slice (some ⟨lb, lo, none⟩) dn dc) ∧ y.cell? ⟨w.heap.size, 4, none⟩ = some (.slice (some ⟨pb, po, none⟩) (dn + 1) pc) ∧ y.cell? ⟨w.heap.size, 5, none⟩ = some (.int .i64 E9) ∧ y.cell? ⟨pb, po + k * 2, none⟩ = some (.int .i64 ps) ∧ y.cell? ⟨pb, po + k * 2 + 1, none⟩ = some (.int .i64 pd) ∧ y.cell? ⟨gb, gf + gk * 2, none⟩ = some (.int .i64 go) ∧ y.cell? ⟨gb, gf + gk * 2 + 1, none⟩ = some (.int .i64 gh)) := Lib.hid fun y hy => ⟨(hy.cell (p := ⟨lv, 0, none⟩) hl3).trans e0, (hy.cell (p := ⟨lv, 1, none⟩) hl3).trans e1, (hy.cell (p := ⟨lv, 2, none⟩) hl3).trans e2, (hy.cell (p := ⟨w.heap.size, 0, none⟩) hl0).trans c0, (hy.cell (p := ⟨w.heap.size, 1, none⟩) hl0).trans c1, (hy.cell (p := ⟨w.heap.size, 2, none⟩) hl0).trans c2, (hy.cell (p := ⟨w.heap.size, 3, none⟩) hl0).trans c3, (hy.cell (p := ⟨w.heap.size, 4, none⟩) hl0).trans c4, (hy.cell (p := ⟨w.heap.size, 5, none⟩) hl0).trans c5, (hy.cell (p := ⟨pb, po + k * 2, none⟩) hlp).trans p0', (hy.cell (p := ⟨pb, po + k * 2 + 1, none⟩) hlp).trans p1', (hy.cell (p := ⟨gb, gf + gk * 2, none⟩) hlg).trans g0', (hy.cell (p := ⟨gb, gf + gk * 2 + 1, none⟩) hlg).trans g1'⟩
  clear A6 A9 A3 c0 c1 c2 c3 c4 c5 e0 e1 e2 p0 p1 g0 g1 p0' p1' g0' g1' f0 f1 f2
  refine wp_region_held_drew (S := (fun w' => w'.cell? ⟨lv, 0, none⟩ = some (.int .i64 s9) ∧ w'.cell? ⟨lv, 1, none⟩ = some (.int .i64 d9) ∧ w'.cell? ⟨lv, 2, none⟩ = some (.int .i64 (gk : Int)) ∧ w'.cell? ⟨w.heap.size, 0, none⟩ = some (.string nm) ∧ w'.cell? ⟨w.heap.size, 1, none⟩ = some (.int .i64 s) ∧ w'.cell? ⟨w.heap.size, 2, none⟩ = some (.slice (some ⟨gb, gf, none⟩) gn gc) ∧ w'.cell? ⟨w.heap.size, 3, none⟩ = some (.slice (some ⟨lb, lo, none⟩) dn dc) ∧ w'.cell? ⟨w.heap.size, 4, none⟩ = some (.slice (some ⟨pb, po, none⟩) (dn + 1) pc) ∧ w'.cell? ⟨w.heap.size, 5, none⟩ = some (.int .i64 E9) ∧ w'.cell? ⟨pb, po + k * 2, none⟩ = some (.int .i64 ps) ∧ w'.cell? ⟨pb, po + k * 2 + 1, none⟩ = some (.int .i64 pd) ∧ w'.cell? ⟨gb, gf + gk * 2, none⟩ = some (.int .i64 go) ∧ w'.cell? ⟨gb, gf + gk * 2 + 1, none⟩ = some (.int .i64 gh))) (by kernel_rfl) (HS.out _ (Below.refl _ _).drew) (fun hHeld => ?_)
  have hT0 : Below u.heap.size u u.drew := (Below.refl _ _).drew
  replace HNrb := Lib.hid (HNrb.out.below (Below.refl u.heap.size u).drew)
  generalize hdr : u.drew = v0 at *
  clear hdr
  refine tkH 0 ⟨some 12, _, _, _, _, _⟩ ?_ rfl ?_ (by assumption) ?_
  rotate_left
  · (intro w hSw; (try dsimp only at hSw); go_simp; all_goals with_reducible rfl)
  try simp only [Act.put, sA, sB, sC]
  refine tkH 1 ⟨some 13, _, _, _, _, _⟩ ?_ rfl ?_ (by assumption) ?_
  rotate_left
  · (intro w hSw; (try dsimp only at hSw); go_simp; all_goals with_reducible rfl)
  try simp only [Act.put, sA, sB, sC]
  refine tkH 2 ⟨some 14, _, _, _, _, _⟩ ?_ rfl ?_ (by assumption) ?_
  rotate_left
  · (intro w hSw; (try dsimp only at hSw); go_simp; all_goals with_reducible rfl)
  try simp only [Act.put, sA, sB, sC]
  refine tkH 3 ⟨some 15, _, _, _, _, _⟩ ?_ rfl ?_ (by assumption) ?_
  rotate_left
  · (intro w hSw; (try dsimp only at hSw); go_simp; all_goals with_reducible rfl)
  try simp only [Act.put, sA, sB, sC]
  refine tkH 4 ⟨some 16, _, _, _, _, _⟩ ?_ rfl ?_ (by assumption) ?_
  rotate_left
  · (intro w hSw; (try dsimp only at hSw); go_simp; all_goals with_reducible rfl)
  try simp only [Act.put, sA, sB, sC]
  refine tkH 5 ⟨some 17, _, _, _, _, _⟩ ?_ rfl ?_ (by assumption) ?_
  rotate_left
  · (intro w hSw; (try dsimp only at hSw); go_simp; all_goals with_reducible rfl)
  try simp only [Act.put, sA, sB, sC]
  refine tkH 6 ⟨some 18, _, _, _, _, _⟩ ?_ rfl ?_ (by assumption) ?_
  rotate_left
  · (intro w hSw; (try dsimp only at hSw); go_simp; all_goals with_reducible rfl)
  try simp only [Act.put, sA, sB, sC]
  refine tkH 7 ⟨some 19, _, _, _, _, _⟩ ?_ rfl ?_ (by assumption) ?_
  rotate_left
  · (intro w hSw; (try dsimp only at hSw); go_simp; all_goals with_reducible rfl)
  try simp only [Act.put, sA, sB, sC]
  refine tkH 8 ⟨some 20, _, _, _, _, _⟩ ?_ rfl ?_ (by assumption) ?_
  rotate_left
  · (intro w hSw; (try dsimp only at hSw); go_simp; all_goals with_reducible rfl)
  try simp only [Act.put, sA, sB, sC]
  refine tkH 9 ⟨some 21, _, _, _, _, _⟩ ?_ rfl ?_ (by assumption) ?_
  rotate_left
  · (intro w hSw; (try dsimp only at hSw); go_simp; all_goals with_reducible rfl)
  try simp only [Act.put, sA, sB, sC]
  refine tkH 10 ⟨some 22, _, _, _, _, _⟩ ?_ rfl ?_ (by assumption) ?_
  rotate_left
  · (intro w hSw; (try dsimp only at hSw); go_simp; all_goals with_reducible rfl)
  try simp only [Act.put, sA, sB, sC]
  refine tkH 11 ⟨some 23, _, _, _, _, _⟩ ?_ rfl ?_ (by assumption) ?_
  rotate_left
  · (intro w hSw; (try dsimp only at hSw); go_simp; all_goals with_reducible rfl)
  try simp only [Act.put, sA, sB, sC]
  refine tkH 12 ⟨some 24, _, _, _, _, _⟩ ?_ rfl ?_ (by assumption) ?_
  rotate_left
  · (intro w hSw; (try dsimp only at hSw); go_simp; all_goals with_reducible rfl)
  try simp only [Act.put, sA, sB, sC]
  refine tkH 13 ⟨some 25, _, _, _, _, _⟩ ?_ rfl ?_ (by assumption) ?_
  rotate_left
  · (intro w hSw; (try dsimp only at hSw); go_simp; all_goals with_reducible rfl)
  try simp only [Act.put, sA, sB, sC]
  refine tkH 14 ⟨some 26, _, _, _, _, _⟩ ?_ rfl ?_ (by assumption) ?_
  rotate_left
  · (intro w hSw; (try dsimp only at hSw); go_simp; all_goals with_reducible rfl)
  try simp only [Act.put, sA, sB, sC]
  refine tkH 15 ⟨some 27, _, _, _, _, _⟩ ?_ rfl ?_ (by assumption) ?_
  rotate_left
  · (intro w hSw; (try dsimp only at hSw); go_simp; all_goals with_reducible rfl)
  try simp only [Act.put, sA, sB, sC]
  refine tkH 16 ⟨some 28, _, _, _, _, _⟩ ?_ rfl ?_ (by assumption) ?_
  rotate_left
  · (intro w hSw; (try dsimp only at hSw); go_simp; all_goals with_reducible rfl)
  try simp only [Act.put, sA, sB, sC]
  refine tkH 17 ⟨some 29, _, _, _, _, _⟩ ?_ rfl ?_ (by assumption) ?_
  rotate_left
  · (intro w hSw; (try dsimp only at hSw); go_simp; all_goals with_reducible rfl)
  try simp only [Act.put, sA, sB, sC]
  refine wpAnyH_ready (rs := [18]) (by kernel_rfl) (by simp) ?_
  refine AllReadyH.cons rfl (fun K hK => ?_) (AllReadyH.nil)
  have HBs := Lib.hid (BlkF.st (vs' := [.int .i64 s9, .int .i64 d9, .int .i64 (gk : Int), .int .i64 (k : Int), .int .i64 ps, .int .i64 pd, .int .i64 s, .int .i64 go, .int .i64 gh]) HNrb.out rfl)
  have hTs := Lib.hid (stW_below (N := w.heap.size) (w := w) HNrb.out.ge [.int .i64 s9, .int .i64 d9, .int .i64 (gk : Int), .int .i64 (k : Int), .int .i64 ps, .int .i64 pd, .int .i64 s, .int .i64 go, .int .i64 gh] v0 0 (hB0.trans (hT0.mono hB0.size)))
  have hSs : (((((((((v0.setCell ⟨rb, 0, none⟩ (.int .i64 s9)).setCell ⟨rb, 1, none⟩ (.int .i64 d9)).setCell ⟨rb, 2, none⟩ (.int .i64 (gk : Int))).setCell ⟨rb, 3, none⟩ (.int .i64 (k : Int))).setCell ⟨rb, 4, none⟩ (.int .i64 ps)).setCell ⟨rb, 5, none⟩ (.int .i64 pd)).setCell ⟨rb, 6, none⟩ (.int .i64 s)).setCell ⟨rb, 7, none⟩ (.int .i64 go)).setCell ⟨rb, 8, none⟩ (.int .i64 gh)).cell? ⟨lv, 0, none⟩ = some (.int .i64 s9) ∧ (((((((((v0.setCell ⟨rb, 0, none⟩ (.int .i64 s9)).setCell ⟨rb, 1, none⟩ (.int .i64 d9)).setCell ⟨rb, 2, none⟩ (.int .i64 (gk : Int))).setCell ⟨rb, 3, none⟩ (.int .i64 (k : Int))).setCell ⟨rb, 4, none⟩ (.int .i64 ps)).setCell ⟨rb, 5, none⟩ (.int .i64 pd)).setCell ⟨rb, 6, none⟩ (.int .i64 s)).setCell ⟨rb, 7, none⟩ (.int .i64 go)).setCell ⟨rb, 8, none⟩ (.int .i64 gh)).cell? ⟨lv, 1, none⟩ = some (.int .i64 d9) ∧ (((((((((v0.setCell ⟨rb, 0, none⟩ (.int .i64 s9)).setCell ⟨rb, 1, none⟩ (.int .i64 d9)).setCell ⟨rb, 2, none⟩ (.int .i64 (gk : Int))).setCell ⟨rb, 3, none⟩ (.int .i64 (k : Int))).setCell ⟨rb, 4, none⟩ (.int .i64 ps)).setCell ⟨rb, 5, none⟩ (.int .i64 pd)).setCell ⟨rb, 6, none⟩ (.int .i64 s)).setCell ⟨rb, 7, none⟩ (.int .i64 go)).setCell ⟨rb, 8, none⟩ (.int .i64 gh)).cell? ⟨lv, 2, none⟩ = some (.int .i64 (gk : Int)) ∧ (((((((((v0.setCell ⟨rb, 0, none⟩ (.int .i64 s9)).setCell ⟨rb, 1, none⟩ (.int .i64 d9)).setCell ⟨rb, 2, none⟩ (.int .i64 (gk : Int))).setCell ⟨rb, 3, none⟩ (.int .i64 (k : Int))).setCell ⟨rb, 4, none⟩ (.int .i64 ps)).setCell ⟨rb, 5, none⟩ (.int .i64 pd)).setCell ⟨rb, 6, none⟩ (.int .i64 s)).setCell ⟨rb, 7, none⟩ (.int .i64 go)).setCell ⟨rb, 8, none⟩ (.int .i64 gh)).cell? ⟨w.heap.size, 0, none⟩ = some (.string nm) ∧ (((((((((v0.setCell ⟨rb, 0, none⟩ (.int .i64 s9)).setCell ⟨rb, 1, none⟩ (.int .i64 d9)).setCell ⟨rb, 2, none⟩ (.int .i64 (gk : Int))).setCell ⟨rb, 3, none⟩ (.int .i64 (k : Int))).setCell ⟨rb, 4, none⟩ (.int .i64 ps)).setCell ⟨rb, 5, none⟩ (.int .i64 pd)).setCell ⟨rb, 6, none⟩ (.int .i64 s)).setCell ⟨rb, 7, none⟩ (.int .i64 go)).setCell ⟨rb, 8, none⟩ (.int .i64 gh)).cell? ⟨w.heap.size, 1, none⟩ = some (.int .i64 s) ∧ (((((((((v0.setCell ⟨rb, 0, none⟩ (.int .i64 s9)).setCell ⟨rb, 1, none⟩ (.int .i64 d9)).setCell ⟨rb, 2, none⟩ (.int .i64 (gk : Int))).setCell ⟨rb, 3, none⟩ (.int .i64 (k : Int))).setCell ⟨rb, 4, none⟩ (.int .i64 ps)).setCell ⟨rb, 5, none⟩ (.int .i64 pd)).setCell ⟨rb, 6, none⟩ (.int .i64 s)).setCell ⟨rb, 7, none⟩ (.int .i64 go)).setCell ⟨rb, 8, none⟩ (.int .i64 gh)).cell? ⟨w.heap.size, 2, none⟩ = some (.slice (some ⟨gb, gf, none⟩) gn gc) ∧ (((((((((v0.setCell ⟨rb, 0, none⟩ (.int .i64 s9)).setCell ⟨rb, 1, none⟩ (.int .i64 d9)).setCell ⟨rb, 2, none⟩ (.int .i64 (gk : Int))).setCell ⟨rb, 3, none⟩ (.int .i64 (k : Int))).setCell ⟨rb, 4, none⟩ (.int .i64 ps)).setCell ⟨rb, 5, none⟩ (.int .i64 pd)).setCell ⟨rb, 6, none⟩ (.int .i64 s)).setCell ⟨rb, 7, none⟩ (.int .i64 go)).setCell ⟨rb, 8, none⟩ (.int .i64 gh)).cell? ⟨w.heap.size, 3, none⟩ = some (.slice (some ⟨lb, lo, none⟩) dn dc) ∧ (((((((((v0.setCell ⟨rb, 0, none⟩ (.int .i64 s9)).setCell ⟨rb, 1, none⟩ (.int .i64 d9)).setCell ⟨rb, 2, none⟩ (.int .i64 (gk : Int))).setCell ⟨rb, 3, none⟩ (.int .i64 (k : Int))).setCell ⟨rb, 4, none⟩ (.int .i64 ps)).setCell ⟨rb, 5, none⟩ (.int .i64 pd)).setCell ⟨rb, 6, none⟩ (.int .i64 s)).setCell ⟨rb, 7, none⟩ (.int .i64 go)).setCell ⟨rb, 8, none⟩ (.int .i64 gh)).cell? ⟨w.heap.size, 4, none⟩ = some (.slice (some ⟨pb, po, none⟩) (dn + 1) pc) ∧ (((((((((v0.setCell ⟨rb, 0, none⟩ (.int .i64 s9)).setCell ⟨rb, 1, none⟩ (.int .i64 d9)).setCell ⟨rb, 2, none⟩ (.int .i64 (gk : Int))).setCell ⟨rb, 3, none⟩ (.int .i64 (k : Int))).setCell ⟨rb, 4, none⟩ (.int .i64 ps)).setCell ⟨rb, 5, none⟩ (.int .i64 pd)).setCell ⟨rb, 6, none⟩ (.int .i64 s)).setCell ⟨rb, 7, none⟩ (.int .i64 go)).setCell ⟨rb, 8, none⟩ (.int .i64 gh)).cell? ⟨w.heap.size, 5, none⟩ = some (.int .i64 E9) ∧ (((((((((v0.setCell ⟨rb, 0, none⟩ (.int .i64 s9)).setCell ⟨rb, 1, none⟩ (.int .i64 d9)).setCell ⟨rb, 2, none⟩ (.int .i64 (gk : Int))).setCell ⟨rb, 3, none⟩ (.int .i64 (k : Int))).setCell ⟨rb, 4, none⟩ (.int .i64 ps)).setCell ⟨rb, 5, none⟩ (.int .i64 pd)).setCell ⟨rb, 6, none⟩ (.int .i64 s)).setCell ⟨rb, 7, none⟩ (.int .i64 go)).setCell ⟨rb, 8, none⟩ (.int .i64 gh)).cell? ⟨pb, po + k * 2, none⟩ = some (.int .i64 ps) ∧ (((((((((v0.setCell ⟨rb, 0, none⟩ (.int .i64 s9)).setCell ⟨rb, 1, none⟩ (.int .i64 d9)).setCell ⟨rb, 2, none⟩ (.int .i64 (gk : Int))).setCell ⟨rb, 3, none⟩ (.int .i64 (k : Int))).setCell ⟨rb, 4, none⟩ (.int .i64 ps)).setCell ⟨rb, 5, none⟩ (.int .i64 pd)).setCell ⟨rb, 6, none⟩ (.int .i64 s)).setCell ⟨rb, 7, none⟩ (.int .i64 go)).setCell ⟨rb, 8, none⟩ (.int .i64 gh)).cell? ⟨pb, po + k * 2 + 1, none⟩ = some (.int .i64 pd) ∧ (((((((((v0.setCell ⟨rb, 0, none⟩ (.int .i64 s9)).setCell ⟨rb, 1, none⟩ (.int .i64 d9)).setCell ⟨rb, 2, none⟩ (.int .i64 (gk : Int))).setCell ⟨rb, 3, none⟩ (.int .i64 (k : Int))).setCell ⟨rb, 4, none⟩ (.int .i64 ps)).setCell ⟨rb, 5, none⟩ (.int .i64 pd)).setCell ⟨rb, 6, none⟩ (.int .i64 s)).setCell ⟨rb, 7, none⟩ (.int .i64 go)).setCell ⟨rb, 8, none⟩ (.int .i64 gh)).cell? ⟨gb, gf + gk * 2, none⟩ = some (.int .i64 go) ∧ (((((((((v0.setCell ⟨rb, 0, none⟩ (.int .i64 s9)).setCell ⟨rb, 1, none⟩ (.int .i64 d9)).setCell ⟨rb, 2, none⟩ (.int .i64 (gk : Int))).setCell ⟨rb, 3, none⟩ (.int .i64 (k : Int))).setCell ⟨rb, 4, none⟩ (.int .i64 ps)).setCell ⟨rb, 5, none⟩ (.int .i64 pd)).setCell ⟨rb, 6, none⟩ (.int .i64 s)).setCell ⟨rb, 7, none⟩ (.int .i64 go)).setCell ⟨rb, 8, none⟩ (.int .i64 gh)).cell? ⟨gb, gf + gk * 2 + 1, none⟩ = some (.int .i64 gh) := by
    obtain ⟨h0, h1, h2, h3, h4, h5, h6, h7, h8, h9, h10, h11, h12⟩ := hHeld
    exact ⟨(stW_oc (l := [.int .i64 s9, .int .i64 d9, .int .i64 (gk : Int), .int .i64 (k : Int), .int .i64 ps, .int .i64 pd, .int .i64 s, .int .i64 go, .int .i64 gh]) (i := 0) (show lv ≠ rb by omega) (0)).trans h0, (stW_oc (l := [.int .i64 s9, .int .i64 d9, .int .i64 (gk : Int), .int .i64 (k : Int), .int .i64 ps, .int .i64 pd, .int .i64 s, .int .i64 go, .int .i64 gh]) (i := 0) (show lv ≠ rb by omega) (1)).trans h1, (stW_oc (l := [.int .i64 s9, .int .i64 d9, .int .i64 (gk : Int), .int .i64 (k : Int), .int .i64 ps, .int .i64 pd, .int .i64 s, .int .i64 go, .int .i64 gh]) (i := 0) (show lv ≠ rb by omega) (2)).trans h2, (stW_oc (l := [.int .i64 s9, .int .i64 d9, .int .i64 (gk : Int), .int .i64 (k : Int), .int .i64 ps, .int .i64 pd, .int .i64 s, .int .i64 go, .int .i64 gh]) (i := 0) (show w.heap.size ≠ rb by omega) (0)).trans h3, (stW_oc (l := [.int .i64 s9, .int .i64 d9, .int .i64 (gk : Int), .int .i64 (k : Int), .int .i64 ps, .int .i64 pd, .int .i64 s, .int .i64 go, .int .i64 gh]) (i := 0) (show w.heap.size ≠ rb by omega) (1)).trans h4, (stW_oc (l := [.int .i64 s9, .int .i64 d9, .int .i64 (gk : Int), .int .i64 (k : Int), .int .i64 ps, .int .i64 pd, .int .i64 s, .int .i64 go, .int .i64 gh]) (i := 0) (show w.heap.size ≠ rb by omega) (2)).trans h5, (stW_oc (l := [.int .i64 s9, .int .i64 d9, .int .i64 (gk : Int), .int .i64 (k : Int), .int .i64 ps, .int .i64 pd, .int .i64 s, .int .i64 go, .int .i64 gh]) (i := 0) (show w.heap.size ≠ rb by omega) (3)).trans h6, (stW_oc (l := [.int .i64 s9, .int .i64 d9, .int .i64 (gk : Int), .int .i64 (k : Int), .int .i64 ps, .int .i64 pd, .int .i64 s, .int .i64 go, .int .i64 gh]) (i := 0) (show w.heap.size ≠ rb by omega) (4)).trans h7, (stW_oc (l := [.int .i64 s9, .int .i64 d9, .int .i64 (gk : Int), .int .i64 (k : Int), .int .i64 ps, .int .i64 pd, .int .i64 s, .int .i64 go, .int .i64 gh]) (i := 0) (show w.heap.size ≠ rb by omega) (5)).trans h8, (stW_oc (l := [.int .i64 s9, .int .i64 d9, .int .i64 (gk : Int), .int .i64 (k : Int), .int .i64 ps, .int .i64 pd, .int .i64 s, .int .i64 go, .int .i64 gh]) (i := 0) (show pb ≠ rb by omega) (po + k * 2)).trans h9, (stW_oc (l := [.int .i64 s9, .int .i64 d9, .int .i64 (gk : Int), .int .i64 (k : Int), .int .i64 ps, .int .i64 pd, .int .i64 s, .int .i64 go, .int .i64 gh]) (i := 0) (show pb ≠ rb by omega) (po + k * 2 + 1)).trans h10, (stW_oc (l := [.int .i64 s9, .int .i64 d9, .int .i64 (gk : Int), .int .i64 (k : Int), .int .i64 ps, .int .i64 pd, .int .i64 s, .int .i64 go, .int .i64 gh]) (i := 0) (show gb ≠ rb by omega) (gf + gk * 2)).trans h11, (stW_oc (l := [.int .i64 s9, .int .i64 d9, .int .i64 (gk : Int), .int .i64 (k : Int), .int .i64 ps, .int .i64 pd, .int .i64 s, .int .i64 go, .int .i64 gh]) (i := 0) (show gb ≠ rb by omega) (gf + gk * 2 + 1)).trans h12⟩
  obtain ⟨k0, k1, k2, k3, k4, k5, k6, k7, k8⟩ := b9 HNrb.out
  have kf := HNrb.out.fz
  go_simp
  go_wp2_with fail
  refine hK.out _ _ hSs (fun hHeld => ?_)
  clear hK K kf hSs k0 k1 k2 k3 k4 k5 k6 k7 k8
  try simp only [Act.put, sA, sB, sC]
  refine wpAnyH_done (by kernel_rfl) ?_ _
  refine ex_world (fun vz => BlkF vz w.heap.size rb [.int .i64 s9, .int .i64 d9, .int .i64 (gk : Int), .int .i64 (k : Int), .int .i64 ps, .int .i64 pd, .int .i64 s, .int .i64 go, .int .i64 gh] ∧ Below w.heap.size w vz) ⟨HBs.out, hTs.out⟩ (fun vz hvz => ?_)
  obtain ⟨HBz, hTz⟩ := hvz
  clear hHeld HS HBs hTs 
  obtain ⟨r0, r1, r2, r3, r4, r5, r6, r7, r8⟩ := b9 HBz
  have hTz2 := Lib.hid hTz
  clear HBz hTz
  go_wp2
  refine bodyPost_ret (v := .agg #[.int .i64 s9, .int .i64 d9, .int .i64 (gk : Int), .int .i64 (k : Int), .int .i64 ps, .int .i64 pd, .int .i64 s, .int .i64 go, .int .i64 gh]) (by simp [results, Try.results61, go_sem, *]) rfl ⟨hVV.out, hTz2.out⟩
end Go.Proofs.Ytgidmmmdpmophaa
