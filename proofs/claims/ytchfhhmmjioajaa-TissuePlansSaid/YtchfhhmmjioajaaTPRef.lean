/- What the specification's LegsOf returns. -/
import Derived.Test.YtchfhhmmjioajaaMPlans
import Derived.Outline
namespace Go.Proofs.Ytchfhhmmjioajaa
open Go.ChangeShapes Go.WideShapes Go.ChangeAt Go.RowKit
set_option linter.unusedVariables false
set_option linter.unusedSimpArgs false
attribute [local go_sem ↓] Go.wp_at_zero Go.wp_at_succ
theorem dlE_1 {s d g dep ng : Int} (h : inB s 0 100000 = false) : dlE s d g dep ng = 2 := by unfold dlE; rw [if_neg (by rw [h]; simp)]
theorem dlE_2 {s d g dep ng : Int} (h : inB d 0 30000 = false) : dlE s d g dep ng = 2 := by unfold dlE; rw [if_neg (by rw [h]; simp)]
theorem dlE_3 {s d g dep ng : Int} (h1 : inB s 0 100000 = true) (h2 : inB d 0 30000 = true) (h : inB g 0 (ng - 1) = false) : dlE s d g dep ng = 6 := by unfold dlE; rw [if_pos ⟨h1, h2⟩, if_neg (by rw [h]; simp)]
theorem dlE_4 {s d g dep ng : Int} (h1 : inB s 0 100000 = true) (h2 : inB d 0 30000 = true) (h3 : inB g 0 (ng - 1) = true) (h : s = 0 ∧ d ≠ dep) : dlE s d g dep ng = 11 := by unfold dlE; rw [if_pos ⟨h1, h2⟩, if_pos h3, if_pos h]
theorem dlE_5 {s d g dep ng : Int} (h1 : inB s 0 100000 = true) (h2 : inB d 0 30000 = true) (h3 : inB g 0 (ng - 1) = true) (h : ¬ (s = 0 ∧ d ≠ dep)) : dlE s d g dep ng = 0 := by unfold dlE; rw [if_pos ⟨h1, h2⟩, if_pos h3, if_neg h]
set_option maxRecDepth 100000 in
set_option maxHeartbeats 4000000 in
theorem refLegsOf_any (nm : Value) (s : Int) (G : List Gp) (L : List Dl) (A B : Option Addr) (cap cap' : Nat) (w : World) (hl : G.length ≤ 1000000) (hn : L.length ≤ 1000000) (hG : SlGp w A G) (hL : SlDl w B L) :
    Calls Try.prog 67 #[.agg #[nm, .int .i64 s, .slice A G.length cap, .slice B L.length cap']] w (LegsPost s G L w) := by
  have HG := Lib.hid hG
  have HL := Lib.hid hL
  clear hG hL
  obtain ⟨i0, hi, hz0, hz1, hz2⟩ := info_parts infoTl
  have HI := Lib.hid hi
  have HZ0 := Lib.hid hz0
  have HZ1 := Lib.hid hz1
  have HZ2 := Lib.hid hz2
  clear hi hz0 hz1 hz2
  rcases inB_cases s 400 1100 with p1 | p1
  rotate_left
  · have hT : Hid (totE s G L = 2) := by unfold totE Hid; rw [plnE_s p1]; exact if_neg (by decide)
    go_enter Try.func67, Try.ntmps67
    go_wp2_with ((go_at_call 44; ((with_reducible refine (refIsSurface_any _ _).mono ?_)); rintro e w' ⟨rfl, rfl⟩))
    go_ret2
    exact ⟨(by (repeat (first | (with_reducible refine Below.drew ?_) | (with_reducible refine below_drewN ?_ _) | (with_reducible refine Below.alloc ?_ (by first | omega | (simp; done) | (simp; omega) | (simp at *; omega)) _) | (with_reducible refine Below.setCell ?_ (by first | omega | (simp; done) | (simp; omega) | (simp at *; omega)) _) | (with_reducible exact Below.refl _ _) | (with_reducible assumption) | (with_reducible refine Below.trans ?_ (Below.mono (by assumption) (by first | omega | (simp; done) | (simp; omega) | (simp at *; omega))))))), Or.inl ⟨by rw [hT.out]; decide, by rw [hT.out]; rfl⟩⟩
  by_cases h8 : 8 < G.length
  · have hT : Hid (totE s G L = 8) := by unfold totE Hid; rw [plnE_l p1 h8]; exact if_neg (by decide)
    go_enter Try.func67, Try.ntmps67
    go_wp2_with ((go_at_call 44; ((with_reducible refine (refIsSurface_any _ _).mono ?_)); rintro e w' ⟨rfl, rfl⟩))
    refine (refGases_many G A cap _ h8 hl).mono ?_
    rintro e w1 ⟨rfl, hb1⟩
    have hB1 : Below w.heap.size w w1 := (by (repeat (first | (with_reducible refine Below.drew ?_) | (with_reducible refine below_drewN ?_ _) | (with_reducible refine Below.alloc ?_ (by first | omega | (simp; done) | (simp; omega) | (simp at *; omega)) _) | (with_reducible refine Below.setCell ?_ (by first | omega | (simp; done) | (simp; omega) | (simp at *; omega)) _) | (with_reducible exact Below.refl _ _) | (with_reducible assumption) | (with_reducible refine Below.trans ?_ (Below.mono (by assumption) (by first | omega | (simp; done) | (simp; omega) | (simp at *; omega)))))))
    clear hb1
    go_wp2
    go_ret2
    exact ⟨hB1, Or.inl ⟨by rw [hT.out]; decide, by rw [hT.out]; rfl⟩⟩
  obtain ⟨g, hg⟩ : ∃ g, Hid (fstE gpE G = g) := ⟨_, rfl⟩
  have HC := Lib.hid (fun w hG => by have := refGases_few G A cap w (by omega) hG; rw [hg.out] at this; exact this)
  go_enter Try.func67, Try.ntmps67
  go_wp2_with ((go_at_call 44; ((with_reducible refine (refIsSurface_any _ _).mono ?_)); rintro e w' ⟨rfl, rfl⟩))
  refine (HC.out _ (HG.out.below (by (repeat (first | (with_reducible refine Below.drew ?_) | (with_reducible refine below_drewN ?_ _) | (with_reducible refine Below.alloc ?_ (by first | omega | (simp; done) | (simp; omega) | (simp at *; omega)) _) | (with_reducible refine Below.setCell ?_ (by first | omega | (simp; done) | (simp; omega) | (simp at *; omega)) _) | (with_reducible exact Below.refl _ _) | (with_reducible assumption) | (with_reducible refine Below.trans ?_ (Below.mono (by assumption) (by first | omega | (simp; done) | (simp; omega) | (simp at *; omega))))))))).mono ?_
  rintro e w1 ⟨rfl, hb1⟩
  have c1 : w1.cell? ⟨w.heap.size, 1, none⟩ = some (.int .i64 s) := by rw [(bcell hb1).1 _ _ (by first | (simp; done) | (simp; omega) | omega)]; simp [go_sem, World.cell?_alloc_past]
  have c2 : w1.cell? ⟨w.heap.size, 2, none⟩ = some (.slice A G.length cap) := by rw [(bcell hb1).1 _ _ (by first | (simp; done) | (simp; omega) | omega)]; simp [go_sem, World.cell?_alloc_past]
  have c3 : w1.cell? ⟨w.heap.size, 3, none⟩ = some (.slice B L.length cap') := by rw [(bcell hb1).1 _ _ (by first | (simp; done) | (simp; omega) | omega)]; simp [go_sem, World.cell?_alloc_past]
  have hB1 : Below w.heap.size w w1 := (by (repeat (first | (with_reducible refine Below.drew ?_) | (with_reducible refine below_drewN ?_ _) | (with_reducible refine Below.alloc ?_ (by first | omega | (simp; done) | (simp; omega) | (simp at *; omega)) _) | (with_reducible refine Below.setCell ?_ (by first | omega | (simp; done) | (simp; omega) | (simp at *; omega)) _) | (with_reducible exact Below.refl _ _) | (with_reducible assumption) | (with_reducible refine Below.trans ?_ (Below.mono (by assumption) (by first | omega | (simp; done) | (simp; omega) | (simp at *; omega)))))))
  have z1 := hb1.size
  try simp at z1
  have o1 : w.heap.size < w1.heap.size := by omega
  have n1 : w1.heap.size ≠ w.heap.size := by omega
  have HG1 := Lib.hid (HG.out.below hB1)
  have HL1 := Lib.hid (HL.out.below hB1)
  clear hb1 HC HG HL z1
  rcases ez2 g with ⟨gz, gb⟩ | ⟨gz, gb⟩
  rotate_left
  · have hT : Hid (totE s G L = g) := by unfold totE Hid; rw [plnE_g p1 h8 (by rw [hg.out]; exact gz.out), hg.out, if_neg gz.out]
    have hne : Hid (totE s G L ≠ 0) := by show _ ≠ _; rw [hT.out]; exact gz.out
    clear gz hg
    go_wp2
    go_ret2
    exact ⟨hB1, Or.inl ⟨hne.out, by rw [hT.out]; rfl⟩⟩
  by_cases h6 : 60 < L.length
  · have hT : Hid (totE s G L = 8) := by unfold totE Hid; rw [plnE_m p1 h8 (hg.out.trans gz.out) h6]; exact if_neg (by decide)
    have h6' : (60 : Int) < L.length := by omega
    clear gz hg
    go_wp2
    go_ret2
    exact ⟨hB1, Or.inl ⟨by rw [hT.out]; decide, by rw [hT.out]; rfl⟩⟩
  have h6' : ¬ (60 : Int) < L.length := by omega
  have hT : Hid (totE s G L = fstN (errAt L G.length) L.length) := by unfold totE Hid; rw [if_pos (plnE_0 p1 h8 (hg.out.trans gz.out) h6)]
  obtain ⟨q1, q2⟩ := inB_iff.1 p1
  clear gz hg
  go_wp2
  go_loopw [5, 6, 7] (fun v d i wr => ∃ k : Nat, k ≤ L.length ∧ i = .int .i64 k ∧ d = .int .i64 (depAt L k) ∧ Hid (fstN (errAt L G.length) k = 0) ∧ Hid (wr.ownsRow w1.heap.size 55 5 v k (tlc (legsV s G L k))) ∧ Below w1.heap.size w1 wr) (fun _ _ i _ => L.length - (intOf i).toNat)
  case atStart => exact ⟨0, by omega, rfl, rfl, rfl, World.ownsRow_nil _ _ _ _, (by (repeat (first | (with_reducible refine Below.drew ?_) | (with_reducible refine below_drewN ?_ _) | (with_reducible refine Below.alloc ?_ (by first | omega | (simp; done) | (simp; omega) | (simp at *; omega)) _) | (with_reducible refine Below.setCell ?_ (by first | omega | (simp; done) | (simp; omega) | (simp at *; omega)) _) | (with_reducible exact Below.refl _ _) | (with_reducible assumption) | (with_reducible refine Below.trans ?_ (Below.mono (by assumption) (by first | omega | (simp; done) | (simp; omega) | (simp at *; omega)))))))⟩
  case round =>
    obtain ⟨k, hk, rfl, rfl, hz, HO, hB⟩ := hrel
    have sz := hB.size
    replace c1 := (hB.cell (p := ⟨w.heap.size, 1, none⟩) o1).trans c1
    replace c2 := (hB.cell (p := ⟨w.heap.size, 2, none⟩) o1).trans c2
    replace c3 := (hB.cell (p := ⟨w.heap.size, 3, none⟩) o1).trans c3
    have o2 : w.heap.size < wr.heap.size := by omega
    have n2 : wr.heap.size ≠ w.heap.size := by omega
    have hBr : Below w.heap.size w wr := hB1.trans (hB.mono hB1.size)
    obtain ⟨db1, db2⟩ := depAt_bd hk hz.out
    obtain ⟨dp, hdp⟩ : ∃ z, Hid (depAt L k = z) := ⟨_, rfl⟩
    rw [hdp.out] at db1 db2 ⊢
    by_cases hkl : k < L.length
    · have hkl2 : (k : Int) < L.length := by omega
      rcases (HL1.out.below hB : SlDl wr B L) with hnil | ⟨lb, lo, hBB, llt, LL⟩
      · rw [hnil] at hkl; simp at hkl
      subst hBB
      obtain ⟨l0, l1, l2⟩ := LL k hkl
      have hgd : L.getD k default = L[k] := getD_is hkl
      have hds : Hid (depAt L (k + 1) = L[k].d) := depAt_s hkl
      have hq1 : errAt L G.length k = dlE L[k].s L[k].d L[k].g dp G.length := by unfold errAt; rw [hgd, hdp.out]
      have hlg : legAt s G L k = ⟨s + dp, s + L[k].d, L[k].s, (G.getD L[k].g.toNat default).o, (G.getD L[k].g.toNat default).h⟩ := by unfold legAt; rw [hgd, hdp.out]
      have HN := Lib.hid (tlc_s s G L k)
      rw [hlg] at HN
      dsimp only at HN
      obtain ⟨ls, hls⟩ : ∃ z, Hid (L[k].s = z) := ⟨L[k].s, Lib.hid rfl⟩
      obtain ⟨ld, hld⟩ : ∃ z, Hid (L[k].d = z) := ⟨L[k].d, Lib.hid rfl⟩
      obtain ⟨lg, hlgg⟩ : ∃ z, Hid (L[k].g = z) := ⟨L[k].g, Lib.hid rfl⟩
      rw [hls.out] at l0 hq1 HN
      rw [hld.out] at l1 hq1 hds HN
      rw [hlgg.out] at l2 hq1 HN
      have HQ := Lib.hid hq1
      have llt2 : wr.heap.size ≠ lb := by omega
      clear LL hgd hlg hls hld hlgg hq1
      rcases inB_cases ls 0 100000 with h1 | h1
      rotate_left
      · have hT2 : Hid (totE s G L = 2) := by
          have h1 : errAt L G.length k = 2 := HQ.out.trans (dlE_1 h1)
          show _ = _
          rw [hT.out, fstN_at hkl hz.out (by rw [h1]; decide), h1]
        clear HQ hT hz HN
        go_wp2_with ((go_at_call 18; ((with_reducible refine (baseWithin_any _ _ _ _).mono ?_)); rintro e w' ⟨rfl, rfl⟩))
        go_ret2
        exact ⟨(by (repeat (first | (with_reducible refine Below.drew ?_) | (with_reducible refine below_drewN ?_ _) | (with_reducible refine Below.alloc ?_ (by first | omega | (simp; done) | (simp; omega) | (simp at *; omega)) _) | (with_reducible refine Below.setCell ?_ (by first | omega | (simp; done) | (simp; omega) | (simp at *; omega)) _) | (with_reducible exact Below.refl _ _) | (with_reducible assumption) | (with_reducible refine Below.trans ?_ (Below.mono (by assumption) (by first | omega | (simp; done) | (simp; omega) | (simp at *; omega))))))), Or.inl ⟨by rw [hT2.out]; decide, by rw [hT2.out]; rfl⟩⟩
      rcases inB_cases ld 0 30000 with h2 | h2
      rotate_left
      · have hT2 : Hid (totE s G L = 2) := by
          have h1 : errAt L G.length k = 2 := HQ.out.trans (dlE_2 h2)
          show _ = _
          rw [hT.out, fstN_at hkl hz.out (by rw [h1]; decide), h1]
        clear HQ hT hz HN
        go_wp2_with ((go_at_call 18; ((with_reducible refine (baseWithin_any _ _ _ _).mono ?_)); rintro e w' ⟨rfl, rfl⟩))
        go_ret2
        exact ⟨(by (repeat (first | (with_reducible refine Below.drew ?_) | (with_reducible refine below_drewN ?_ _) | (with_reducible refine Below.alloc ?_ (by first | omega | (simp; done) | (simp; omega) | (simp at *; omega)) _) | (with_reducible refine Below.setCell ?_ (by first | omega | (simp; done) | (simp; omega) | (simp at *; omega)) _) | (with_reducible exact Below.refl _ _) | (with_reducible assumption) | (with_reducible refine Below.trans ?_ (Below.mono (by assumption) (by first | omega | (simp; done) | (simp; omega) | (simp at *; omega))))))), Or.inl ⟨by rw [hT2.out]; decide, by rw [hT2.out]; rfl⟩⟩
      rcases inB_cases lg 0 ((G.length : Int) - 1) with h3 | h3
      rotate_left
      · have hT2 : Hid (totE s G L = 6) := by
          have h1 : errAt L G.length k = 6 := HQ.out.trans (dlE_3 h1 h2 h3)
          show _ = _
          rw [hT.out, fstN_at hkl hz.out (by rw [h1]; decide), h1]
        clear HQ hT hz HN
        go_wp2_with ((go_at_call 18; ((with_reducible refine (baseWithin_any _ _ _ _).mono ?_)); rintro e w' ⟨rfl, rfl⟩))
        go_ret2
        exact ⟨(by (repeat (first | (with_reducible refine Below.drew ?_) | (with_reducible refine below_drewN ?_ _) | (with_reducible refine Below.alloc ?_ (by first | omega | (simp; done) | (simp; omega) | (simp at *; omega)) _) | (with_reducible refine Below.setCell ?_ (by first | omega | (simp; done) | (simp; omega) | (simp at *; omega)) _) | (with_reducible exact Below.refl _ _) | (with_reducible assumption) | (with_reducible refine Below.trans ?_ (Below.mono (by assumption) (by first | omega | (simp; done) | (simp; omega) | (simp at *; omega))))))), Or.inl ⟨by rw [hT2.out]; decide, by rw [hT2.out]; rfl⟩⟩
      by_cases hs : ls = 0
      · have k1 : (ls == 0) = true := by simp [hs]
        by_cases hd : ld = dp
        · have k2 : (ld != dp) = false := by simp [hd]
          have hv := Lib.hid (dlE_5 (dep := dp) h1 h2 h3 (fun h => h.2 hd))
          clear hs hd
          have hz2 : Hid (fstN (errAt L G.length) (k + 1) = 0) := fstN_s hz.out (HQ.out.trans (hv.out))
          obtain ⟨b1, b2⟩ := inB_iff.1 h2
          obtain ⟨b3, b4⟩ := inB_iff.1 h3
          obtain ⟨gn, hgn⟩ : ∃ n : Nat, lg = n := ⟨lg.toNat, by omega⟩
          subst hgn
          rw [Int.toNat_natCast] at HN
          have hgl : gn < G.length := by omega
          have hgl2 : (gn : Int) < G.length := by omega
          rcases HG1.out with hnil | ⟨gb', go, hAA, glt1, GG1⟩
          · rw [hnil] at hgl; simp at hgl
          have GG := GG1.below hB glt1
          have glt : gb' < wr.heap.size := by omega
          clear GG1
          subst hAA
          obtain ⟨g0, g1⟩ := GG gn hgl
          have hgd : G.getD gn default = G[gn] := getD_is hgl
          rw [hgd] at HN
          obtain ⟨go', hgo⟩ : ∃ z, Hid (G[gn].o = z) := ⟨G[gn].o, Lib.hid rfl⟩
          obtain ⟨gh', hgh⟩ : ∃ z, Hid (G[gn].h = z) := ⟨G[gn].h, Lib.hid rfl⟩
          rw [hgo.out] at g0 HN
          rw [hgh.out] at g1 HN
          obtain ⟨x1, hx1⟩ : ∃ z, Hid (s + dp = z) := ⟨_, rfl⟩
          obtain ⟨x2, hx2⟩ : ∃ z, Hid (s + ld = z) := ⟨_, rfl⟩
          rw [hx1.out, hx2.out] at HN
          have e1 : IntKind.i64.wrap (s + dp) = x1 := by rw [← hx1.out]; exact IntWalk.i64_in _ (by omega)
          have e2 : IntKind.i64.wrap (s + ld) = x2 := by rw [← hx2.out]; exact IntWalk.i64_in _ (by omega)
          clear GG hgd hgo hgh HQ hz hx1 hx2
          go_upto_region 20 with ((go_at_call 18; ((with_reducible refine (baseWithin_any _ _ _ _).mono ?_)); rintro e w' ⟨rfl, rfl⟩))
          have hB4 : Below wr.heap.size wr (wr.alloc (.cells #[.int .i64 ls, .int .i64 ld, .int .i64 gn] 163)) := (Below.refl _ _).alloc (Nat.le_refl _) _
          have d0 : (wr.alloc (.cells #[.int .i64 ls, .int .i64 ld, .int .i64 gn] 163)).cell? ⟨wr.heap.size, 0, none⟩ = some (.int .i64 ls) := by simp [go_sem, World.cell?_alloc_past]
          have d1 : (wr.alloc (.cells #[.int .i64 ls, .int .i64 ld, .int .i64 gn] 163)).cell? ⟨wr.heap.size, 1, none⟩ = some (.int .i64 ld) := by simp [go_sem, World.cell?_alloc_past]
          have d2 : (wr.alloc (.cells #[.int .i64 ls, .int .i64 ld, .int .i64 gn] 163)).cell? ⟨wr.heap.size, 2, none⟩ = some (.int .i64 gn) := by simp [go_sem, World.cell?_alloc_past]
          have s4 : wr.heap.size < (wr.alloc (.cells #[.int .i64 ls, .int .i64 ld, .int .i64 gn] 163)).heap.size := by simp
          generalize hw4 : wr.alloc (.cells #[.int .i64 ls, .int .i64 ld, .int .i64 gn] 163) = w4 at *
          clear hw4
          replace c1 := (hB4.cell (p := ⟨w.heap.size, 1, none⟩) o2).trans c1
          replace c2 := (hB4.cell (p := ⟨w.heap.size, 2, none⟩) o2).trans c2
          replace g0 := (hB4.cell (p := ⟨gb', go + gn * 2, none⟩) glt).trans g0
          replace g1 := (hB4.cell (p := ⟨gb', go + gn * 2 + 1, none⟩) glt).trans g1
          have ow4 : w.heap.size < w4.heap.size := by omega
          have gw4 : gb' < w4.heap.size := by omega
          have HS : Hid (∀ w', Below w4.heap.size w4 w' → w'.cell? ⟨w.heap.size, 1, none⟩ = some (.int .i64 s) ∧ w'.cell? ⟨w.heap.size, 2, none⟩ = some (.slice (some ⟨gb', go, none⟩) G.length cap) ∧ w'.cell? ⟨wr.heap.size, 0, none⟩ = some (.int .i64 ls) ∧ w'.cell? ⟨wr.heap.size, 1, none⟩ = some (.int .i64 ld) ∧ w'.cell? ⟨wr.heap.size, 2, none⟩ = some (.int .i64 gn) ∧ w'.cell? ⟨gb', go + gn * 2, none⟩ = some (.int .i64 go') ∧ w'.cell? ⟨gb', go + gn * 2 + 1, none⟩ = some (.int .i64 gh')) := fun w' hb => ⟨(hb.cell (p := ⟨w.heap.size, 1, none⟩) ow4).trans c1, (hb.cell (p := ⟨w.heap.size, 2, none⟩) ow4).trans c2, (hb.cell (p := ⟨wr.heap.size, 0, none⟩) s4).trans d0, (hb.cell (p := ⟨wr.heap.size, 1, none⟩) s4).trans d1, (hb.cell (p := ⟨wr.heap.size, 2, none⟩) s4).trans d2, (hb.cell (p := ⟨gb', go + gn * 2, none⟩) gw4).trans g0, (hb.cell (p := ⟨gb', go + gn * 2 + 1, none⟩) gw4).trans g1⟩
          clear c1 c2 c3 d0 d1 d2 g0 g1
          refine wp_region_held_drew (S := (fun w' => w'.cell? ⟨w.heap.size, 1, none⟩ = some (.int .i64 s) ∧ w'.cell? ⟨w.heap.size, 2, none⟩ = some (.slice (some ⟨gb', go, none⟩) G.length cap) ∧ w'.cell? ⟨wr.heap.size, 0, none⟩ = some (.int .i64 ls) ∧ w'.cell? ⟨wr.heap.size, 1, none⟩ = some (.int .i64 ld) ∧ w'.cell? ⟨wr.heap.size, 2, none⟩ = some (.int .i64 gn) ∧ w'.cell? ⟨gb', go + gn * 2, none⟩ = some (.int .i64 go') ∧ w'.cell? ⟨gb', go + gn * 2 + 1, none⟩ = some (.int .i64 gh'))) (by kernel_rfl) (by exact HS.out _ (Below.refl w4.heap.size w4).drew) (fun hHeld => ?_)
          have hB0 : Below w4.heap.size w4 w4.drew := (Below.refl w4.heap.size w4).drew
          generalize hdr : w4.drew = u0 at *
          have s04 : wr.heap.size ≤ w4.heap.size := by omega
          clear hdr
          refine wpAnyH_take (i := 0) (oi := ⟨some 62, _, _, _, _, _⟩) (v := ?_) rfl (by kernel_rfl) (by kernel_rfl) (by kernel_rfl) (fun _ _ _ h => h) (Or.inl ⟨by kernel_rfl, ?_⟩) (by assumption) ?_
          rotate_left
          · (intro w hSw; (try dsimp only at hSw); go_simp; all_goals with_reducible rfl)
          try simp only [Act.put, List.setIfInBounds_toArray, List.set_cons_zero, List.set_cons_succ]
          refine wpAnyH_take (i := 1) (oi := ⟨some 63, _, _, _, _, _⟩) (v := ?_) rfl (by kernel_rfl) (by kernel_rfl) (by kernel_rfl) (fun _ _ _ h => h) (Or.inl ⟨by kernel_rfl, ?_⟩) (by assumption) ?_
          rotate_left
          · (intro w hSw; (try dsimp only at hSw); go_simp; all_goals with_reducible rfl)
          try simp only [Act.put, List.setIfInBounds_toArray, List.set_cons_zero, List.set_cons_succ]
          refine wpAnyH_take (i := 2) (oi := ⟨some 64, _, _, _, _, _⟩) (v := ?_) rfl (by kernel_rfl) (by kernel_rfl) (by kernel_rfl) (fun _ _ _ h => h) (Or.inl ⟨by kernel_rfl, ?_⟩) (by assumption) ?_
          rotate_left
          · (intro w hSw; (try dsimp only at hSw); go_simp; all_goals with_reducible rfl)
          try simp only [Act.put, List.setIfInBounds_toArray, List.set_cons_zero, List.set_cons_succ]
          refine wpAnyH_take (i := 3) (oi := ⟨some 65, _, _, _, _, _⟩) (v := ?_) rfl (by kernel_rfl) (by kernel_rfl) (by kernel_rfl) (fun _ _ _ h => h) (Or.inl ⟨by kernel_rfl, ?_⟩) (by assumption) ?_
          rotate_left
          · (intro w hSw; (try dsimp only at hSw); go_simp; all_goals with_reducible rfl)
          try simp only [Act.put, List.setIfInBounds_toArray, List.set_cons_zero, List.set_cons_succ]
          refine wpAnyH_take (i := 4) (oi := ⟨some 66, _, _, _, _, _⟩) (v := ?_) rfl (by kernel_rfl) (by kernel_rfl) (by kernel_rfl) (fun _ _ _ h => h) (Or.inl ⟨by kernel_rfl, ?_⟩) (by assumption) ?_
          rotate_left
          · (intro w hSw; (try dsimp only at hSw); go_simp; all_goals with_reducible rfl)
          try simp only [Act.put, List.setIfInBounds_toArray, List.set_cons_zero, List.set_cons_succ]
          refine wpAnyH_take (i := 5) (oi := ⟨some 67, _, _, _, _, _⟩) (v := ?_) rfl (by kernel_rfl) (by kernel_rfl) (by kernel_rfl) (fun _ _ _ h => h) (Or.inl ⟨by kernel_rfl, ?_⟩) (by assumption) ?_
          rotate_left
          · (intro w hSw; (try dsimp only at hSw); go_simp; all_goals with_reducible rfl)
          try simp only [Act.put, List.setIfInBounds_toArray, List.set_cons_zero, List.set_cons_succ]
          refine wpAnyH_take (i := 6) (oi := ⟨some 68, _, _, _, _, _⟩) (v := ?_) rfl (by kernel_rfl) (by kernel_rfl) (by kernel_rfl) (fun _ _ _ h => h) (Or.inl ⟨by kernel_rfl, ?_⟩) (by assumption) ?_
          rotate_left
          · (intro w hSw; (try dsimp only at hSw); go_simp; all_goals with_reducible rfl)
          try simp only [Act.put, List.setIfInBounds_toArray, List.set_cons_zero, List.set_cons_succ]
          refine wpAnyH_take (i := 7) (oi := ⟨some 69, _, _, _, _, _⟩) (v := ?_) rfl (by kernel_rfl) (by kernel_rfl) (by kernel_rfl) (fun _ _ _ h => h) (Or.inl ⟨by kernel_rfl, ?_⟩) (by assumption) ?_
          rotate_left
          · (intro w hSw; (try dsimp only at hSw); go_simp; all_goals with_reducible rfl)
          try simp only [Act.put, List.setIfInBounds_toArray, List.set_cons_zero, List.set_cons_succ]
          refine wpAnyH_take (i := 8) (oi := ⟨some 70, _, _, _, _, _⟩) (v := ?_) rfl (by kernel_rfl) (by kernel_rfl) (by kernel_rfl) (fun _ _ _ h => h) (Or.inl ⟨by kernel_rfl, ?_⟩) (by assumption) ?_
          rotate_left
          · (intro w hSw; (try dsimp only at hSw); go_simp; all_goals with_reducible rfl)
          try simp only [Act.put, List.setIfInBounds_toArray, List.set_cons_zero, List.set_cons_succ]
          refine wpAnyH_take (i := 9) (oi := ⟨some 71, _, _, _, _, _⟩) (v := ?_) rfl (by kernel_rfl) (by kernel_rfl) (by kernel_rfl) (fun _ _ _ h => h) (Or.inl ⟨by kernel_rfl, ?_⟩) (by assumption) ?_
          rotate_left
          · (intro w hSw; (try dsimp only at hSw); go_simp; all_goals with_reducible rfl)
          try simp only [Act.put, List.setIfInBounds_toArray, List.set_cons_zero, List.set_cons_succ]
          refine wpAnyH_take (i := 10) (oi := ⟨some 72, _, _, _, _, _⟩) (v := ?_) rfl (by kernel_rfl) (by kernel_rfl) (by kernel_rfl) (fun _ _ _ h => h) (Or.inl ⟨by kernel_rfl, ?_⟩) (by assumption) ?_
          rotate_left
          · (intro w hSw; (try dsimp only at hSw); go_simp; all_goals with_reducible rfl)
          try simp only [Act.put, List.setIfInBounds_toArray, List.set_cons_zero, List.set_cons_succ]
          refine wpAnyH_take (i := 11) (oi := ⟨some 73, _, _, _, _, _⟩) (v := ?_) rfl (by kernel_rfl) (by kernel_rfl) (by kernel_rfl) (fun _ _ _ h => h) (Or.inl ⟨by kernel_rfl, ?_⟩) (by assumption) ?_
          rotate_left
          · (intro w hSw; (try dsimp only at hSw); go_simp; all_goals with_reducible rfl)
          try simp only [Act.put, List.setIfInBounds_toArray, List.set_cons_zero, List.set_cons_succ]
          refine wpAnyH_take (i := 12) (oi := ⟨some 74, _, _, _, _, _⟩) (v := ?_) rfl (by kernel_rfl) (by kernel_rfl) (by kernel_rfl) (fun _ _ _ h => h) (Or.inl ⟨by kernel_rfl, ?_⟩) (by assumption) ?_
          rotate_left
          · (intro w hSw; (try dsimp only at hSw); go_simp; all_goals with_reducible rfl)
          try simp only [Act.put, List.setIfInBounds_toArray, List.set_cons_zero, List.set_cons_succ]
          refine wpAnyH_take (i := 13) (oi := ⟨some 75, _, _, _, _, _⟩) (v := ?_) rfl (by kernel_rfl) (by kernel_rfl) (by kernel_rfl) (fun _ _ _ h => h) (Or.inl ⟨by kernel_rfl, ?_⟩) (by assumption) ?_
          rotate_left
          · (intro w hSw; (try dsimp only at hSw); go_simp; all_goals with_reducible rfl)
          try simp only [Act.put, List.setIfInBounds_toArray, List.set_cons_zero, List.set_cons_succ]
          refine wpAnyH_take (i := 14) (oi := ⟨some 76, _, _, _, _, _⟩) (v := ?_) rfl (by kernel_rfl) (by kernel_rfl) (by kernel_rfl) (fun _ _ _ h => h) (Or.inl ⟨by kernel_rfl, ?_⟩) (by assumption) ?_
          rotate_left
          · (intro w hSw; (try dsimp only at hSw); go_simp; all_goals with_reducible rfl)
          try simp only [Act.put, List.setIfInBounds_toArray, List.set_cons_zero, List.set_cons_succ]
          refine wpAnyH_take (i := 15) (oi := ⟨some 77, _, _, _, _, _⟩) (v := ?_) rfl (by kernel_rfl) (by kernel_rfl) (by kernel_rfl) (fun _ _ _ h => h) (Or.inl ⟨by kernel_rfl, ?_⟩) (by assumption) ?_
          rotate_left
          · (intro w hSw; (try dsimp only at hSw); go_simp; all_goals with_reducible rfl)
          try simp only [Act.put, List.setIfInBounds_toArray, List.set_cons_zero, List.set_cons_succ]
          refine wpAnyH_take (i := 16) (oi := ⟨some 78, _, _, _, _, _⟩) (v := ?_) rfl (by kernel_rfl) (by kernel_rfl) (by kernel_rfl) (fun _ _ _ h => h) (Or.inl ⟨by kernel_rfl, ?_⟩) (by assumption) ?_
          rotate_left
          · (intro w hSw; (try dsimp only at hSw); go_simp; all_goals with_reducible rfl)
          try simp only [Act.put, List.setIfInBounds_toArray, List.set_cons_zero, List.set_cons_succ]
          refine wpAnyH_take (i := 17) (oi := ⟨some 79, _, _, _, _, _⟩) (v := ?_) rfl (by kernel_rfl) (by kernel_rfl) (by kernel_rfl) (fun _ _ _ h => h) (Or.inl ⟨by kernel_rfl, ?_⟩) (by assumption) ?_
          rotate_left
          · (intro w hSw; (try dsimp only at hSw); go_simp; all_goals with_reducible rfl)
          try simp only [Act.put, List.setIfInBounds_toArray, List.set_cons_zero, List.set_cons_succ]
          refine wpAnyH_take (i := 18) (oi := ⟨some 80, _, _, _, _, _⟩) (v := ?_) rfl (by kernel_rfl) (by kernel_rfl) (by kernel_rfl) (fun _ _ _ h => h) (Or.inl ⟨by kernel_rfl, ?_⟩) (by assumption) ?_
          rotate_left
          · (intro w hSw; (try dsimp only at hSw); go_simp; all_goals with_reducible rfl)
          try simp only [Act.put, List.setIfInBounds_toArray, List.set_cons_zero, List.set_cons_succ]
          refine wpAnyH_ready (rs := [19]) (by kernel_rfl) (by simp) ?_
          refine AllReadyH.cons rfl (fun K hK => ?_) AllReadyH.nil
          go_simp
          go_wp2_with fail
          refine hK.out _ _ (HS.out _ (hB0.alloc hB0.size _)) (fun hHeld => ?_)
          clear hK K
          try simp only [Act.put, List.setIfInBounds_toArray, List.set_cons_zero, List.set_cons_succ]
          refine wpAnyH_ready (rs := [20]) (by kernel_rfl) (by simp) ?_
          refine AllReadyH.cons rfl (fun K hK => ?_) AllReadyH.nil
          rw [if_pos (by kernel_rfl)]
          have su0 := hB0.size
          have HO5 := Lib.hid (own_below HO.out (hB4.trans (hB0.mono s04)) (Nat.le_refl _))
          refine oper_append_own_at _ _ 69 rfl w1.heap.size 55 i0 (.agg #[.int .i64 0, .int .i64 0, .int .i64 0, .int .i64 0, .int .i64 0]) 5 40 Try.underlying69 HI.out HZ0.out HZ1.out HZ2.out rfl (by decide) _ _ _ rfl (HO5.out.alloc _) ⟨u0.heap.size, 0, none⟩ 1 1 [.int .i64 x1, .int .i64 x2, .int .i64 ls, .int .i64 go', .int .i64 gh'] rfl rfl ?c0 ?c1 ?c2 ?c3 ?c4 ?_
          case c0 =>
            intro j u hj
            match j, hj with
            | 0, hj => simp at hj; subst hj; simp [Addr.add, go_sem]
            | 1, hj => simp at hj; subst hj; simp [Addr.add, go_sem]
            | 2, hj => simp at hj; subst hj; simp [Addr.add, go_sem]
            | 3, hj => simp at hj; subst hj; simp [Addr.add, go_sem]
            | 4, hj => simp at hj; subst hj; simp [Addr.add, go_sem]
          case c1 => intro u hu; simp at hu; rcases hu with rfl | rfl | rfl | rfl | rfl <;> rfl
          case c2 => unfold maxLen; omega
          case c3 => omega
          case c4 => simp; omega
          intro v' w5 hown hgrow
          have ob := HO.out.lt
          obtain ⟨t0, t1, t2, t3, t4, t5, t6⟩ := HS.out _ (hB0.alloc (o := .cells #[.int .i64 x1, .int .i64 x2, .int .i64 ls, .int .i64 go', .int .i64 gh'] 55) hB0.size)
          have ne1 : some w.heap.size ≠ u5.ownBlock := fun e => by have := ob _ e.symm; omega
          have ne2 : some wr.heap.size ≠ u5.ownBlock := fun e => by have := ob _ e.symm; omega
          have ne3 : some gb' ≠ u5.ownBlock := fun e => by have := ob _ e.symm; omega
          have r0 := hgrow.cell t0 ne1
          have r1 := hgrow.cell t1 ne1
          have r2 := hgrow.cell t2 ne2
          have r3 := hgrow.cell t3 ne2
          have r4 := hgrow.cell t4 ne2
          have r5 := hgrow.cell t5 ne3
          have r6 := hgrow.cell t6 ne3
          have hBu : Below w1.heap.size w1 u0 := hB.trans ((hB4.trans (hB0.mono s04)).mono sz)
          have hB5 : Below w1.heap.size w1 w5 := (hBu.alloc hBu.size _).grown hgrow (by have := hBu.size; simp; omega) (fun k hk => (ob k hk).1)
          have HOW : Hid (w5.ownsRow w1.heap.size 55 5 v' (k + 1) (tlc (legsV s G L (k + 1)))) := by
            show World.ownsRow _ _ _ _ _ _ _
            rw [HN.out]
            exact hown
          have hSz : w1.heap.size ≤ w5.heap.size := hB5.size
          clear hown hgrow ob t0 t1 t2 t3 t4 t5 t6 ne1 ne2 ne3 HO HO5 HN hBu
          refine hK.out _ _ ⟨r0, r1, r2, r3, r4, r5, r6⟩ (fun hHeld => ?_)
          clear hK K
          try simp only [Act.put, List.setIfInBounds_toArray, List.set_cons_zero, List.set_cons_succ]
          refine wpAnyH_take (i := 21) (oi := ⟨some 5, _, _, _, _, _⟩) (v := ?_) rfl (by kernel_rfl) (by kernel_rfl) (by kernel_rfl) (fun _ _ _ h => h) (Or.inl ⟨by kernel_rfl, ?_⟩) (by assumption) ?_
          rotate_left
          · (intro w hSw; (try dsimp only at hSw); go_simp; all_goals with_reducible rfl)
          try simp only [Act.put, List.setIfInBounds_toArray, List.set_cons_zero, List.set_cons_succ]
          refine wpAnyH_done (by kernel_rfl) ?_ _
          go_wp2
          go_roundw
          case rel => exact ⟨k + 1, by omega, by go_num, by rw [hds.out], hz2, HOW, hB5⟩
          case measure => (simp [intOf]) <;> omega
        · have k2 : (ld != dp) = true := by simp [hd]
          have hv := Lib.hid (dlE_4 (dep := dp) h1 h2 h3 ⟨hs, hd⟩)
          clear hs hd
          have hT2 : Hid (totE s G L = 11) := by
            have h1 : errAt L G.length k = 11 := HQ.out.trans (hv.out)
            show _ = _
            rw [hT.out, fstN_at hkl hz.out (by rw [h1]; decide), h1]
          clear HQ hT hz HN
          go_wp2_with ((go_at_call 18; ((with_reducible refine (baseWithin_any _ _ _ _).mono ?_)); rintro e w' ⟨rfl, rfl⟩))
          go_ret2
          exact ⟨(by (repeat (first | (with_reducible refine Below.drew ?_) | (with_reducible refine below_drewN ?_ _) | (with_reducible refine Below.alloc ?_ (by first | omega | (simp; done) | (simp; omega) | (simp at *; omega)) _) | (with_reducible refine Below.setCell ?_ (by first | omega | (simp; done) | (simp; omega) | (simp at *; omega)) _) | (with_reducible exact Below.refl _ _) | (with_reducible assumption) | (with_reducible refine Below.trans ?_ (Below.mono (by assumption) (by first | omega | (simp; done) | (simp; omega) | (simp at *; omega))))))), Or.inl ⟨by rw [hT2.out]; decide, by rw [hT2.out]; rfl⟩⟩
      · have k1 : (ls == 0) = false := by simp [hs]
        have hv := Lib.hid (dlE_5 (dep := dp) h1 h2 h3 (fun h => hs h.1))
        clear hs
        have hz2 : Hid (fstN (errAt L G.length) (k + 1) = 0) := fstN_s hz.out (HQ.out.trans (hv.out))
        obtain ⟨b1, b2⟩ := inB_iff.1 h2
        obtain ⟨b3, b4⟩ := inB_iff.1 h3
        obtain ⟨gn, hgn⟩ : ∃ n : Nat, lg = n := ⟨lg.toNat, by omega⟩
        subst hgn
        rw [Int.toNat_natCast] at HN
        have hgl : gn < G.length := by omega
        have hgl2 : (gn : Int) < G.length := by omega
        rcases HG1.out with hnil | ⟨gb', go, hAA, glt1, GG1⟩
        · rw [hnil] at hgl; simp at hgl
        have GG := GG1.below hB glt1
        have glt : gb' < wr.heap.size := by omega
        clear GG1
        subst hAA
        obtain ⟨g0, g1⟩ := GG gn hgl
        have hgd : G.getD gn default = G[gn] := getD_is hgl
        rw [hgd] at HN
        obtain ⟨go', hgo⟩ : ∃ z, Hid (G[gn].o = z) := ⟨G[gn].o, Lib.hid rfl⟩
        obtain ⟨gh', hgh⟩ : ∃ z, Hid (G[gn].h = z) := ⟨G[gn].h, Lib.hid rfl⟩
        rw [hgo.out] at g0 HN
        rw [hgh.out] at g1 HN
        obtain ⟨x1, hx1⟩ : ∃ z, Hid (s + dp = z) := ⟨_, rfl⟩
        obtain ⟨x2, hx2⟩ : ∃ z, Hid (s + ld = z) := ⟨_, rfl⟩
        rw [hx1.out, hx2.out] at HN
        have e1 : IntKind.i64.wrap (s + dp) = x1 := by rw [← hx1.out]; exact IntWalk.i64_in _ (by omega)
        have e2 : IntKind.i64.wrap (s + ld) = x2 := by rw [← hx2.out]; exact IntWalk.i64_in _ (by omega)
        clear GG hgd hgo hgh HQ hz hx1 hx2
        go_upto_region 20 with ((go_at_call 18; ((with_reducible refine (baseWithin_any _ _ _ _).mono ?_)); rintro e w' ⟨rfl, rfl⟩))
        have hB4 : Below wr.heap.size wr (wr.alloc (.cells #[.int .i64 ls, .int .i64 ld, .int .i64 gn] 163)) := (Below.refl _ _).alloc (Nat.le_refl _) _
        have d0 : (wr.alloc (.cells #[.int .i64 ls, .int .i64 ld, .int .i64 gn] 163)).cell? ⟨wr.heap.size, 0, none⟩ = some (.int .i64 ls) := by simp [go_sem, World.cell?_alloc_past]
        have d1 : (wr.alloc (.cells #[.int .i64 ls, .int .i64 ld, .int .i64 gn] 163)).cell? ⟨wr.heap.size, 1, none⟩ = some (.int .i64 ld) := by simp [go_sem, World.cell?_alloc_past]
        have d2 : (wr.alloc (.cells #[.int .i64 ls, .int .i64 ld, .int .i64 gn] 163)).cell? ⟨wr.heap.size, 2, none⟩ = some (.int .i64 gn) := by simp [go_sem, World.cell?_alloc_past]
        have s4 : wr.heap.size < (wr.alloc (.cells #[.int .i64 ls, .int .i64 ld, .int .i64 gn] 163)).heap.size := by simp
        generalize hw4 : wr.alloc (.cells #[.int .i64 ls, .int .i64 ld, .int .i64 gn] 163) = w4 at *
        clear hw4
        replace c1 := (hB4.cell (p := ⟨w.heap.size, 1, none⟩) o2).trans c1
        replace c2 := (hB4.cell (p := ⟨w.heap.size, 2, none⟩) o2).trans c2
        replace g0 := (hB4.cell (p := ⟨gb', go + gn * 2, none⟩) glt).trans g0
        replace g1 := (hB4.cell (p := ⟨gb', go + gn * 2 + 1, none⟩) glt).trans g1
        have ow4 : w.heap.size < w4.heap.size := by omega
        have gw4 : gb' < w4.heap.size := by omega
        have HS : Hid (∀ w', Below w4.heap.size w4 w' → w'.cell? ⟨w.heap.size, 1, none⟩ = some (.int .i64 s) ∧ w'.cell? ⟨w.heap.size, 2, none⟩ = some (.slice (some ⟨gb', go, none⟩) G.length cap) ∧ w'.cell? ⟨wr.heap.size, 0, none⟩ = some (.int .i64 ls) ∧ w'.cell? ⟨wr.heap.size, 1, none⟩ = some (.int .i64 ld) ∧ w'.cell? ⟨wr.heap.size, 2, none⟩ = some (.int .i64 gn) ∧ w'.cell? ⟨gb', go + gn * 2, none⟩ = some (.int .i64 go') ∧ w'.cell? ⟨gb', go + gn * 2 + 1, none⟩ = some (.int .i64 gh')) := fun w' hb => ⟨(hb.cell (p := ⟨w.heap.size, 1, none⟩) ow4).trans c1, (hb.cell (p := ⟨w.heap.size, 2, none⟩) ow4).trans c2, (hb.cell (p := ⟨wr.heap.size, 0, none⟩) s4).trans d0, (hb.cell (p := ⟨wr.heap.size, 1, none⟩) s4).trans d1, (hb.cell (p := ⟨wr.heap.size, 2, none⟩) s4).trans d2, (hb.cell (p := ⟨gb', go + gn * 2, none⟩) gw4).trans g0, (hb.cell (p := ⟨gb', go + gn * 2 + 1, none⟩) gw4).trans g1⟩
        clear c1 c2 c3 d0 d1 d2 g0 g1
        refine wp_region_held_drew (S := (fun w' => w'.cell? ⟨w.heap.size, 1, none⟩ = some (.int .i64 s) ∧ w'.cell? ⟨w.heap.size, 2, none⟩ = some (.slice (some ⟨gb', go, none⟩) G.length cap) ∧ w'.cell? ⟨wr.heap.size, 0, none⟩ = some (.int .i64 ls) ∧ w'.cell? ⟨wr.heap.size, 1, none⟩ = some (.int .i64 ld) ∧ w'.cell? ⟨wr.heap.size, 2, none⟩ = some (.int .i64 gn) ∧ w'.cell? ⟨gb', go + gn * 2, none⟩ = some (.int .i64 go') ∧ w'.cell? ⟨gb', go + gn * 2 + 1, none⟩ = some (.int .i64 gh'))) (by kernel_rfl) (by exact HS.out _ (Below.refl w4.heap.size w4).drew) (fun hHeld => ?_)
        have hB0 : Below w4.heap.size w4 w4.drew := (Below.refl w4.heap.size w4).drew
        generalize hdr : w4.drew = u0 at *
        have s04 : wr.heap.size ≤ w4.heap.size := by omega
        clear hdr
        refine wpAnyH_take (i := 0) (oi := ⟨some 62, _, _, _, _, _⟩) (v := ?_) rfl (by kernel_rfl) (by kernel_rfl) (by kernel_rfl) (fun _ _ _ h => h) (Or.inl ⟨by kernel_rfl, ?_⟩) (by assumption) ?_
        rotate_left
        · (intro w hSw; (try dsimp only at hSw); go_simp; all_goals with_reducible rfl)
        try simp only [Act.put, List.setIfInBounds_toArray, List.set_cons_zero, List.set_cons_succ]
        refine wpAnyH_take (i := 1) (oi := ⟨some 63, _, _, _, _, _⟩) (v := ?_) rfl (by kernel_rfl) (by kernel_rfl) (by kernel_rfl) (fun _ _ _ h => h) (Or.inl ⟨by kernel_rfl, ?_⟩) (by assumption) ?_
        rotate_left
        · (intro w hSw; (try dsimp only at hSw); go_simp; all_goals with_reducible rfl)
        try simp only [Act.put, List.setIfInBounds_toArray, List.set_cons_zero, List.set_cons_succ]
        refine wpAnyH_take (i := 2) (oi := ⟨some 64, _, _, _, _, _⟩) (v := ?_) rfl (by kernel_rfl) (by kernel_rfl) (by kernel_rfl) (fun _ _ _ h => h) (Or.inl ⟨by kernel_rfl, ?_⟩) (by assumption) ?_
        rotate_left
        · (intro w hSw; (try dsimp only at hSw); go_simp; all_goals with_reducible rfl)
        try simp only [Act.put, List.setIfInBounds_toArray, List.set_cons_zero, List.set_cons_succ]
        refine wpAnyH_take (i := 3) (oi := ⟨some 65, _, _, _, _, _⟩) (v := ?_) rfl (by kernel_rfl) (by kernel_rfl) (by kernel_rfl) (fun _ _ _ h => h) (Or.inl ⟨by kernel_rfl, ?_⟩) (by assumption) ?_
        rotate_left
        · (intro w hSw; (try dsimp only at hSw); go_simp; all_goals with_reducible rfl)
        try simp only [Act.put, List.setIfInBounds_toArray, List.set_cons_zero, List.set_cons_succ]
        refine wpAnyH_take (i := 4) (oi := ⟨some 66, _, _, _, _, _⟩) (v := ?_) rfl (by kernel_rfl) (by kernel_rfl) (by kernel_rfl) (fun _ _ _ h => h) (Or.inl ⟨by kernel_rfl, ?_⟩) (by assumption) ?_
        rotate_left
        · (intro w hSw; (try dsimp only at hSw); go_simp; all_goals with_reducible rfl)
        try simp only [Act.put, List.setIfInBounds_toArray, List.set_cons_zero, List.set_cons_succ]
        refine wpAnyH_take (i := 5) (oi := ⟨some 67, _, _, _, _, _⟩) (v := ?_) rfl (by kernel_rfl) (by kernel_rfl) (by kernel_rfl) (fun _ _ _ h => h) (Or.inl ⟨by kernel_rfl, ?_⟩) (by assumption) ?_
        rotate_left
        · (intro w hSw; (try dsimp only at hSw); go_simp; all_goals with_reducible rfl)
        try simp only [Act.put, List.setIfInBounds_toArray, List.set_cons_zero, List.set_cons_succ]
        refine wpAnyH_take (i := 6) (oi := ⟨some 68, _, _, _, _, _⟩) (v := ?_) rfl (by kernel_rfl) (by kernel_rfl) (by kernel_rfl) (fun _ _ _ h => h) (Or.inl ⟨by kernel_rfl, ?_⟩) (by assumption) ?_
        rotate_left
        · (intro w hSw; (try dsimp only at hSw); go_simp; all_goals with_reducible rfl)
        try simp only [Act.put, List.setIfInBounds_toArray, List.set_cons_zero, List.set_cons_succ]
        refine wpAnyH_take (i := 7) (oi := ⟨some 69, _, _, _, _, _⟩) (v := ?_) rfl (by kernel_rfl) (by kernel_rfl) (by kernel_rfl) (fun _ _ _ h => h) (Or.inl ⟨by kernel_rfl, ?_⟩) (by assumption) ?_
        rotate_left
        · (intro w hSw; (try dsimp only at hSw); go_simp; all_goals with_reducible rfl)
        try simp only [Act.put, List.setIfInBounds_toArray, List.set_cons_zero, List.set_cons_succ]
        refine wpAnyH_take (i := 8) (oi := ⟨some 70, _, _, _, _, _⟩) (v := ?_) rfl (by kernel_rfl) (by kernel_rfl) (by kernel_rfl) (fun _ _ _ h => h) (Or.inl ⟨by kernel_rfl, ?_⟩) (by assumption) ?_
        rotate_left
        · (intro w hSw; (try dsimp only at hSw); go_simp; all_goals with_reducible rfl)
        try simp only [Act.put, List.setIfInBounds_toArray, List.set_cons_zero, List.set_cons_succ]
        refine wpAnyH_take (i := 9) (oi := ⟨some 71, _, _, _, _, _⟩) (v := ?_) rfl (by kernel_rfl) (by kernel_rfl) (by kernel_rfl) (fun _ _ _ h => h) (Or.inl ⟨by kernel_rfl, ?_⟩) (by assumption) ?_
        rotate_left
        · (intro w hSw; (try dsimp only at hSw); go_simp; all_goals with_reducible rfl)
        try simp only [Act.put, List.setIfInBounds_toArray, List.set_cons_zero, List.set_cons_succ]
        refine wpAnyH_take (i := 10) (oi := ⟨some 72, _, _, _, _, _⟩) (v := ?_) rfl (by kernel_rfl) (by kernel_rfl) (by kernel_rfl) (fun _ _ _ h => h) (Or.inl ⟨by kernel_rfl, ?_⟩) (by assumption) ?_
        rotate_left
        · (intro w hSw; (try dsimp only at hSw); go_simp; all_goals with_reducible rfl)
        try simp only [Act.put, List.setIfInBounds_toArray, List.set_cons_zero, List.set_cons_succ]
        refine wpAnyH_take (i := 11) (oi := ⟨some 73, _, _, _, _, _⟩) (v := ?_) rfl (by kernel_rfl) (by kernel_rfl) (by kernel_rfl) (fun _ _ _ h => h) (Or.inl ⟨by kernel_rfl, ?_⟩) (by assumption) ?_
        rotate_left
        · (intro w hSw; (try dsimp only at hSw); go_simp; all_goals with_reducible rfl)
        try simp only [Act.put, List.setIfInBounds_toArray, List.set_cons_zero, List.set_cons_succ]
        refine wpAnyH_take (i := 12) (oi := ⟨some 74, _, _, _, _, _⟩) (v := ?_) rfl (by kernel_rfl) (by kernel_rfl) (by kernel_rfl) (fun _ _ _ h => h) (Or.inl ⟨by kernel_rfl, ?_⟩) (by assumption) ?_
        rotate_left
        · (intro w hSw; (try dsimp only at hSw); go_simp; all_goals with_reducible rfl)
        try simp only [Act.put, List.setIfInBounds_toArray, List.set_cons_zero, List.set_cons_succ]
        refine wpAnyH_take (i := 13) (oi := ⟨some 75, _, _, _, _, _⟩) (v := ?_) rfl (by kernel_rfl) (by kernel_rfl) (by kernel_rfl) (fun _ _ _ h => h) (Or.inl ⟨by kernel_rfl, ?_⟩) (by assumption) ?_
        rotate_left
        · (intro w hSw; (try dsimp only at hSw); go_simp; all_goals with_reducible rfl)
        try simp only [Act.put, List.setIfInBounds_toArray, List.set_cons_zero, List.set_cons_succ]
        refine wpAnyH_take (i := 14) (oi := ⟨some 76, _, _, _, _, _⟩) (v := ?_) rfl (by kernel_rfl) (by kernel_rfl) (by kernel_rfl) (fun _ _ _ h => h) (Or.inl ⟨by kernel_rfl, ?_⟩) (by assumption) ?_
        rotate_left
        · (intro w hSw; (try dsimp only at hSw); go_simp; all_goals with_reducible rfl)
        try simp only [Act.put, List.setIfInBounds_toArray, List.set_cons_zero, List.set_cons_succ]
        refine wpAnyH_take (i := 15) (oi := ⟨some 77, _, _, _, _, _⟩) (v := ?_) rfl (by kernel_rfl) (by kernel_rfl) (by kernel_rfl) (fun _ _ _ h => h) (Or.inl ⟨by kernel_rfl, ?_⟩) (by assumption) ?_
        rotate_left
        · (intro w hSw; (try dsimp only at hSw); go_simp; all_goals with_reducible rfl)
        try simp only [Act.put, List.setIfInBounds_toArray, List.set_cons_zero, List.set_cons_succ]
        refine wpAnyH_take (i := 16) (oi := ⟨some 78, _, _, _, _, _⟩) (v := ?_) rfl (by kernel_rfl) (by kernel_rfl) (by kernel_rfl) (fun _ _ _ h => h) (Or.inl ⟨by kernel_rfl, ?_⟩) (by assumption) ?_
        rotate_left
        · (intro w hSw; (try dsimp only at hSw); go_simp; all_goals with_reducible rfl)
        try simp only [Act.put, List.setIfInBounds_toArray, List.set_cons_zero, List.set_cons_succ]
        refine wpAnyH_take (i := 17) (oi := ⟨some 79, _, _, _, _, _⟩) (v := ?_) rfl (by kernel_rfl) (by kernel_rfl) (by kernel_rfl) (fun _ _ _ h => h) (Or.inl ⟨by kernel_rfl, ?_⟩) (by assumption) ?_
        rotate_left
        · (intro w hSw; (try dsimp only at hSw); go_simp; all_goals with_reducible rfl)
        try simp only [Act.put, List.setIfInBounds_toArray, List.set_cons_zero, List.set_cons_succ]
        refine wpAnyH_take (i := 18) (oi := ⟨some 80, _, _, _, _, _⟩) (v := ?_) rfl (by kernel_rfl) (by kernel_rfl) (by kernel_rfl) (fun _ _ _ h => h) (Or.inl ⟨by kernel_rfl, ?_⟩) (by assumption) ?_
        rotate_left
        · (intro w hSw; (try dsimp only at hSw); go_simp; all_goals with_reducible rfl)
        try simp only [Act.put, List.setIfInBounds_toArray, List.set_cons_zero, List.set_cons_succ]
        refine wpAnyH_ready (rs := [19]) (by kernel_rfl) (by simp) ?_
        refine AllReadyH.cons rfl (fun K hK => ?_) AllReadyH.nil
        go_simp
        go_wp2_with fail
        refine hK.out _ _ (HS.out _ (hB0.alloc hB0.size _)) (fun hHeld => ?_)
        clear hK K
        try simp only [Act.put, List.setIfInBounds_toArray, List.set_cons_zero, List.set_cons_succ]
        refine wpAnyH_ready (rs := [20]) (by kernel_rfl) (by simp) ?_
        refine AllReadyH.cons rfl (fun K hK => ?_) AllReadyH.nil
        rw [if_pos (by kernel_rfl)]
        have su0 := hB0.size
        have HO5 := Lib.hid (own_below HO.out (hB4.trans (hB0.mono s04)) (Nat.le_refl _))
        refine oper_append_own_at _ _ 69 rfl w1.heap.size 55 i0 (.agg #[.int .i64 0, .int .i64 0, .int .i64 0, .int .i64 0, .int .i64 0]) 5 40 Try.underlying69 HI.out HZ0.out HZ1.out HZ2.out rfl (by decide) _ _ _ rfl (HO5.out.alloc _) ⟨u0.heap.size, 0, none⟩ 1 1 [.int .i64 x1, .int .i64 x2, .int .i64 ls, .int .i64 go', .int .i64 gh'] rfl rfl ?c0 ?c1 ?c2 ?c3 ?c4 ?_
        case c0 =>
          intro j u hj
          match j, hj with
          | 0, hj => simp at hj; subst hj; simp [Addr.add, go_sem]
          | 1, hj => simp at hj; subst hj; simp [Addr.add, go_sem]
          | 2, hj => simp at hj; subst hj; simp [Addr.add, go_sem]
          | 3, hj => simp at hj; subst hj; simp [Addr.add, go_sem]
          | 4, hj => simp at hj; subst hj; simp [Addr.add, go_sem]
        case c1 => intro u hu; simp at hu; rcases hu with rfl | rfl | rfl | rfl | rfl <;> rfl
        case c2 => unfold maxLen; omega
        case c3 => omega
        case c4 => simp; omega
        intro v' w5 hown hgrow
        have ob := HO.out.lt
        obtain ⟨t0, t1, t2, t3, t4, t5, t6⟩ := HS.out _ (hB0.alloc (o := .cells #[.int .i64 x1, .int .i64 x2, .int .i64 ls, .int .i64 go', .int .i64 gh'] 55) hB0.size)
        have ne1 : some w.heap.size ≠ u5.ownBlock := fun e => by have := ob _ e.symm; omega
        have ne2 : some wr.heap.size ≠ u5.ownBlock := fun e => by have := ob _ e.symm; omega
        have ne3 : some gb' ≠ u5.ownBlock := fun e => by have := ob _ e.symm; omega
        have r0 := hgrow.cell t0 ne1
        have r1 := hgrow.cell t1 ne1
        have r2 := hgrow.cell t2 ne2
        have r3 := hgrow.cell t3 ne2
        have r4 := hgrow.cell t4 ne2
        have r5 := hgrow.cell t5 ne3
        have r6 := hgrow.cell t6 ne3
        have hBu : Below w1.heap.size w1 u0 := hB.trans ((hB4.trans (hB0.mono s04)).mono sz)
        have hB5 : Below w1.heap.size w1 w5 := (hBu.alloc hBu.size _).grown hgrow (by have := hBu.size; simp; omega) (fun k hk => (ob k hk).1)
        have HOW : Hid (w5.ownsRow w1.heap.size 55 5 v' (k + 1) (tlc (legsV s G L (k + 1)))) := by
          show World.ownsRow _ _ _ _ _ _ _
          rw [HN.out]
          exact hown
        have hSz : w1.heap.size ≤ w5.heap.size := hB5.size
        clear hown hgrow ob t0 t1 t2 t3 t4 t5 t6 ne1 ne2 ne3 HO HO5 HN hBu
        refine hK.out _ _ ⟨r0, r1, r2, r3, r4, r5, r6⟩ (fun hHeld => ?_)
        clear hK K
        try simp only [Act.put, List.setIfInBounds_toArray, List.set_cons_zero, List.set_cons_succ]
        refine wpAnyH_take (i := 21) (oi := ⟨some 5, _, _, _, _, _⟩) (v := ?_) rfl (by kernel_rfl) (by kernel_rfl) (by kernel_rfl) (fun _ _ _ h => h) (Or.inl ⟨by kernel_rfl, ?_⟩) (by assumption) ?_
        rotate_left
        · (intro w hSw; (try dsimp only at hSw); go_simp; all_goals with_reducible rfl)
        try simp only [Act.put, List.setIfInBounds_toArray, List.set_cons_zero, List.set_cons_succ]
        refine wpAnyH_done (by kernel_rfl) ?_ _
        go_wp2
        go_roundw
        case rel => exact ⟨k + 1, by omega, by go_num, by rw [hds.out], hz2, HOW, hB5⟩
        case measure => (simp [intOf]) <;> omega
    · have hkl2 : ¬ (k : Int) < L.length := by omega
      have hkk : k = L.length := by omega
      have hT2 : Hid (totE s G L = 0) := by show _ = _; rw [hT.out, ← hkk]; exact hz.out
      have HO2 := HO.out
      rw [hkk] at HO2
      have hle := legsV_len s G L L.length
      obtain ⟨A', cap2, rfl, hS, _⟩ := SlTl_own (P := legsV s G L L.length) (by rw [hle]; exact HO2)
      rw [hle]
      have HS := Lib.hid hS
      clear HO HO2 hS hkk hz hle
      go_wp2
      go_ret2
      exact ⟨hBr, Or.inr ⟨hT2.out, A', cap2, rfl, HS.out⟩⟩
end Go.Proofs.Ytchfhhmmjioajaa
