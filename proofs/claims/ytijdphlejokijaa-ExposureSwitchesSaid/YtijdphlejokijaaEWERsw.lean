import Derived.Test.YtijdphlejokijaaEWESwq
import Derived.Test.YtijdphlejokijaaEWERfP
import Derived.Test.YtijdphlejokijaaEWELeg
import Derived.Test.YtijdphlejokijaaEWEFx
import Derived.Test.YtijdphlejokijaaEWECons
import Derived.Outline
namespace Go.Proofs.Ytijdphlejokijaa
open Go.ChangeShapes Go.WideShapes Go.ChangeAt Go.RowKit
set_option linter.unusedVariables false
set_option linter.unusedSimpArgs false
attribute [local go_sem ↓] Go.wp_at_zero Go.wp_at_succ

theorem blkF_belowN {u u' : World} {B b N : Nat} {vs : List Value} (h : BlkF u B b vs) (hb : Below N u u') (hlt : b < N) : BlkF u' B b vs :=
  ⟨h.ge, Nat.lt_of_lt_of_le h.lt hb.size, fun i v hv => (hb.cell (p := ⟨b, i, none⟩) hlt).trans (h.at' i v hv), fun j => (hb.frozen (p := ⟨b, j, none⟩) hlt).trans (h.fz j)⟩
theorem swSt_one (s : Int) (G : List Ga) (D : List Le) : (swSt (legC s G D) (List.range 1)).1 = [] := by
  have h : ¬ 0 < (legC s G D 0).nu := by
    unfold legC
    by_cases h : 0 < D.length
    · rw [if_pos h]; show ¬ (0 : Int) < ((0 : Nat) : Int); omega
    · rw [if_neg h]; show ¬ (0 : Int) < 0; omega
  rw [show List.range 1 = [] ++ [0] from rfl, swSt_snoc, if_neg (fun x => h x.1)]
  rfl
theorem swSt_last (f : Nat → Pl) (k : Nat) : (swSt f (List.range (k + 1))).2 = ((f k).o, (f k).h) := by
  rw [List.range_succ, swSt_snoc]
set_option maxRecDepth 100000 in
set_option maxHeartbeats 4000000 in
theorem refSwitches_is (nm : ByteArray) (s : Int) (G : List Ga) (D : List Le) (A B : Option Addr) (gn gc dn dc : Nat) (w : World) (hgn : Hid (gn = G.length)) (hdn : Hid (dn = D.length)) (hok : Hid (PlnOk nm s G D)) (hG : Hid (SlRows gaV 2 w A G)) (hD : Hid (SlRows leV 3 w B D)) :
    Calls Try.prog 41 #[.agg #[.string nm, .int .i64 s, .slice A gn gc, .slice B dn dc]] w fun e w' => ∃ (C : Option Addr) (c : Nat), e = .returned (.slice C (swSt (legC s G D) (List.range dn)).1.length c) ∧ SlRows p2V 2 w' C (swSt (legC s G D) (List.range dn)).1 ∧ Below w.heap.size w w' := by
  obtain ⟨i0, hi0, hz0', hz1', hz2'⟩ := info_partsG infoP2
  have HI := Lib.hid hi0
  have HZ0 := Lib.hid hz0'
  have HZ1 := Lib.hid hz1'
  have HZ2 := Lib.hid hz2'
  clear hi0 hz0' hz1' hz2'
  have d60 : dn ≤ 60 := by have := hok.out.d6; have := hdn.out; omega
  have hP0 := Lib.hid (BlkF.made (B := w.heap.size) w [.string nm, .int .i64 s, .slice A gn gc, .slice B dn dc] 40 (Nat.le_refl _))
  have hB0 : Hid (Below w.heap.size w (w.alloc (.cells #[.string nm, .int .i64 s, .slice A gn gc, .slice B dn dc] 40))) := Lib.hid ((Below.refl _ _).alloc (Nat.le_refl _) _)
  have hO0 : Hid ((w.alloc (.cells #[.string nm, .int .i64 s, .slice A gn gc, .slice B dn dc] 40)).ownsRow (w.heap.size + 1) 55 2 (.slice none 0 0) 0 (rowsV p2V (swSt (legC s G D) (List.range 1)).1)) := Lib.hid (by rw [swSt_one]; exact ⟨rfl, .inl ⟨rfl, rfl⟩⟩)
  have hn0 : Hid ((swSt (legC s G D) (List.range 1)).1.length = 0) := Lib.hid (by rw [swSt_one]; rfl)
  go_enter Try.func41, Try.ntmps41
  go_wp2_with fail
  go_loopw [3, 4] (fun v i wr => ∃ (k n : Nat) (C : Option Addr) (c : Nat), 1 ≤ k ∧ k ≤ max 1 dn ∧ i = .int .i64 k ∧ v = .slice C n c ∧ Hid ((swSt (legC s G D) (List.range k)).1.length = n) ∧ Hid (wr.ownsRow (w.heap.size + 1) 55 2 (.slice C n c) n (rowsV p2V (swSt (legC s G D) (List.range k)).1)) ∧ Hid (BlkF wr w.heap.size w.heap.size [.string nm, .int .i64 s, .slice A gn gc, .slice B dn dc]) ∧ Below w.heap.size w wr) (fun _ i _ => dn - (intOf i).toNat)
  case atStart => exact ⟨1, 0, none, 0, by omega, by omega, rfl, rfl, hn0, hO0, hP0, hB0.out⟩
  case round =>
    clear hP0 hB0 hO0 hn0
    obtain ⟨k, n, C, c, hk1, hk2, rfl, rfl, hn9, hO, hP, hB⟩ := hrel
    have zb := hB.size
    have hnn : n ≤ 61 := by have h := swSt_len (legC s G D) _ (List.range k) rfl; rw [hn9.out, List.length_range] at h; omega
    by_cases hkn : k < dn
    · obtain ⟨q, rfl⟩ : ∃ q : Nat, k = q + 1 := ⟨k - 1, by omega⟩
      have hkD : q + 1 < D.length := by have := hdn.out; omega
      have hqD : q < D.length := by omega
      obtain ⟨_, _, _, _, g5, g6⟩ := hok.out.le _ (List.getElem_mem hkD)
      obtain ⟨_, _, _, _, p5, p6⟩ := hok.out.le _ (List.getElem_mem hqD)
      obtain ⟨gk, hgk⟩ : ∃ g : Nat, D[q + 1].g = g := ⟨D[q + 1].g.toNat, (Int.toNat_of_nonneg g5).symm⟩
      obtain ⟨gq, hgq⟩ : ∃ g : Nat, D[q].g = g := ⟨D[q].g.toNat, (Int.toNat_of_nonneg p5).symm⟩
      have hgG : gk < G.length := by omega
      have hpG : gq < G.length := by omega
      obtain ⟨gb, gf, rfl, hlg0, hGR⟩ := hG.out.at' hgG
      obtain ⟨lb, lo, rfl, hll0, hDR⟩ := hD.out.at' hkD
      obtain ⟨g0, g1⟩ := ga_at hGR hgG
      obtain ⟨q0, q1⟩ := ga_at hGR hpG
      have f2 := (le_at hDR hkD).2.2
      have r2 := (le_at hDR hqD).2.2
      obtain ⟨go, hgo⟩ : ∃ z, Hid (G[gk].o = z) := ⟨_, Lib.hid rfl⟩
      obtain ⟨gh, hgh⟩ : ∃ z, Hid (G[gk].h = z) := ⟨_, Lib.hid rfl⟩
      obtain ⟨qo, hqo⟩ : ∃ z, Hid (G[gq].o = z) := ⟨_, Lib.hid rfl⟩
      obtain ⟨qh, hqh⟩ : ∃ z, Hid (G[gq].h = z) := ⟨_, Lib.hid rfl⟩
      have eG : ∀ j (hj : j < G.length), G.getD j default = G[j] := fun j hj => by rw [List.getD_eq_getElem?_getD, List.getElem?_eq_getElem hj]; rfl
      have hst0 : Hid ((swSt (legC s G D) (List.range (q + 1 + 1))).1 = if ¬ (go = qo ∧ gh = qh) then (swSt (legC s G D) (List.range (q + 1))).1 ++ [((q : Int) + 1, (gk : Int))] else (swSt (legC s G D) (List.range (q + 1))).1) := Lib.hid (by
        rw [List.range_succ (n := q + 1), swSt_snoc, swSt_last, legC_is hkD, legC_is hqD]
        have e1 : (legK s G D (q + 1)).o = go := by show (G.getD (D.getD (q + 1) default).g.toNat default).o = _; rw [getD_leE hkD, hgk, Int.toNat_natCast, eG _ hgG]; exact hgo.out
        have e2 : (legK s G D (q + 1)).h = gh := by show (G.getD (D.getD (q + 1) default).g.toNat default).h = _; rw [getD_leE hkD, hgk, Int.toNat_natCast, eG _ hgG]; exact hgh.out
        have e3 : (legK s G D q).o = qo := by show (G.getD (D.getD q default).g.toNat default).o = _; rw [getD_leE hqD, hgq, Int.toNat_natCast, eG _ hpG]; exact hqo.out
        have e4 : (legK s G D q).h = qh := by show (G.getD (D.getD q default).g.toNat default).h = _; rw [getD_leE hqD, hgq, Int.toNat_natCast, eG _ hpG]; exact hqh.out
        have e5 : (legK s G D (q + 1)).nu = (q : Int) + 1 := by show ((q + 1 : Nat) : Int) = _; omega
        have e6 : (legK s G D (q + 1)).g = (gk : Int) := by show (D.getD (q + 1) default).g = _; rw [getD_leE hkD]; exact hgk
        rw [e1, e2, e3, e4, e5, e6]
        have e7 : (0 : Int) < (q : Int) + 1 := by omega
        by_cases e : go = qo ∧ gh = qh
        · rw [if_neg (fun x => x.2 e), if_neg (fun x => x e)]
        · rw [if_pos ⟨e7, e⟩, if_pos e])
      rw [hgo.out] at g0
      rw [hgh.out] at g1
      rw [hqo.out] at q0
      rw [hqh.out] at q1
      rw [hgk] at f2
      rw [hgq] at r2
      have kn : (q : Int) + 1 < (dn : Int) := by omega
      have kn2 : (q : Int) < (dn : Int) := by omega
      have k0 : ¬ (q : Int) + 1 < 0 := by omega
      have k0p : (0 : Int) ≤ (q : Int) + 1 := by omega
      have k00 : ¬ (q : Int) < 0 := by omega
      have gk1 : (gk : Int) < (gn : Int) := by have := hgn.out; omega
      have gk0 : ¬ (gk : Int) < 0 := by omega
      have gq1 : (gq : Int) < (gn : Int) := by have := hgn.out; omega
      have gq0 : ¬ (gq : Int) < 0 := by omega
      have wq : IntKind.i64.wrap ((q : Int) + 1 - 1) = (q : Int) := by rw [show (q : Int) + 1 - 1 = q by omega]; exact IntWalk.i64_in _ (by omega)
      have wq0 : IntKind.i64.wrap (q : Int) = (q : Int) := IntWalk.i64_in _ (by omega)
      have wq2 : IntKind.i64.wrap ((q : Int) + 1 + 1) = (q : Int) + 1 + 1 := IntWalk.i64_in _ (by omega)
      have tq : ((q : Int) + 1).toNat = q + 1 := by omega
      have lP := hP.out.lt
      have hll : lb < wr.heap.size := by omega
      have hlg : gb < wr.heap.size := by omega
      obtain ⟨c0, c1, c2, c3⟩ := b4 hP.out
      have f2' := (hB.cell (p := ⟨lb, lo + (q + 1) * 3 + 2, none⟩) hll0).trans f2
      have r2' := (hB.cell (p := ⟨lb, lo + q * 3 + 2, none⟩) hll0).trans r2
      have g0' := (hB.cell (p := ⟨gb, gf + gk * 2, none⟩) hlg0).trans g0
      have g1' := (hB.cell (p := ⟨gb, gf + gk * 2 + 1, none⟩) hlg0).trans g1
      have q0' := (hB.cell (p := ⟨gb, gf + gq * 2, none⟩) hlg0).trans q0
      have q1' := (hB.cell (p := ⟨gb, gf + gq * 2 + 1, none⟩) hlg0).trans q1
      have HS : Hid (∀ y, Below wr.heap.size wr y → y.cell? ⟨w.heap.size, 0, none⟩ = some (.string nm) ∧ y.cell? ⟨w.heap.size, 1, none⟩ = some (.int .i64 s) ∧ y.cell? ⟨w.heap.size, 2, none⟩ = some (.slice (some ⟨gb, gf, none⟩) gn gc) ∧ y.cell? ⟨w.heap.size, 3, none⟩ = some (.slice (some ⟨lb, lo, none⟩) dn dc) ∧ y.cell? ⟨lb, lo + (q + 1) * 3 + 2, none⟩ = some (.int .i64 (gk : Int)) ∧ y.cell? ⟨lb, lo + q * 3 + 2, none⟩ = some (.int .i64 (gq : Int)) ∧ y.cell? ⟨gb, gf + gk * 2, none⟩ = some (.int .i64 go) ∧ y.cell? ⟨gb, gf + gk * 2 + 1, none⟩ = some (.int .i64 gh) ∧ y.cell? ⟨gb, gf + gq * 2, none⟩ = some (.int .i64 qo) ∧ y.cell? ⟨gb, gf + gq * 2 + 1, none⟩ = some (.int .i64 qh)) := Lib.hid fun y hy => ⟨(hy.cell (p := ⟨w.heap.size, 0, none⟩) lP).trans c0, (hy.cell (p := ⟨w.heap.size, 1, none⟩) lP).trans c1, (hy.cell (p := ⟨w.heap.size, 2, none⟩) lP).trans c2, (hy.cell (p := ⟨w.heap.size, 3, none⟩) lP).trans c3, (hy.cell (p := ⟨lb, lo + (q + 1) * 3 + 2, none⟩) hll).trans f2', (hy.cell (p := ⟨lb, lo + q * 3 + 2, none⟩) hll).trans r2', (hy.cell (p := ⟨gb, gf + gk * 2, none⟩) hlg).trans g0', (hy.cell (p := ⟨gb, gf + gk * 2 + 1, none⟩) hlg).trans g1', (hy.cell (p := ⟨gb, gf + gq * 2, none⟩) hlg).trans q0', (hy.cell (p := ⟨gb, gf + gq * 2 + 1, none⟩) hlg).trans q1'⟩
      clear g0 g1 q0 q1 f2 r2 g0' g1' q0' q1' f2' r2' hGR hDR hgk hgq g5 g6 p5 p6 eG
      by_cases hq : go = qo ∧ gh = qh
      · have hEq := eqG2 go gh qo qh true (by simp [hq.1, hq.2])
        have hst : Hid ((swSt (legC s G D) (List.range (q + 1 + 1))).1 = (swSt (legC s G D) (List.range (q + 1))).1) := Lib.hid (by rw [hst0.out, if_neg (fun x => x hq)])
        clear hst0 hq
        go_upto_region 5 with (fail)
        refine wp_region_held_drew (S := (fun w' => w'.cell? ⟨w.heap.size, 0, none⟩ = some (.string nm) ∧ w'.cell? ⟨w.heap.size, 1, none⟩ = some (.int .i64 s) ∧ w'.cell? ⟨w.heap.size, 2, none⟩ = some (.slice (some ⟨gb, gf, none⟩) gn gc) ∧ w'.cell? ⟨w.heap.size, 3, none⟩ = some (.slice (some ⟨lb, lo, none⟩) dn dc) ∧ w'.cell? ⟨lb, lo + (q + 1) * 3 + 2, none⟩ = some (.int .i64 (gk : Int)) ∧ w'.cell? ⟨lb, lo + q * 3 + 2, none⟩ = some (.int .i64 (gq : Int)) ∧ w'.cell? ⟨gb, gf + gk * 2, none⟩ = some (.int .i64 go) ∧ w'.cell? ⟨gb, gf + gk * 2 + 1, none⟩ = some (.int .i64 gh) ∧ w'.cell? ⟨gb, gf + gq * 2, none⟩ = some (.int .i64 qo) ∧ w'.cell? ⟨gb, gf + gq * 2 + 1, none⟩ = some (.int .i64 qh))) (by kernel_rfl) (HS.out _ (Below.refl _ _).drew) (fun hHeld => ?_)
        have hT0 : Below wr.heap.size wr wr.drew := (Below.refl _ _).drew
        generalize hdr : wr.drew = v0 at *
        clear hdr
        refine tkH 0 ⟨some 12, _, _, _, _, _⟩ ?_ rfl ?_ (by assumption) ?_
        rotate_left
        · (intro w hSw; (try dsimp only at hSw); go_simp; all_goals with_reducible rfl)
        try simp only [Act.put, sA, sB, sC]
        refine tkH 1 ⟨some 13, _, _, _, _, _⟩ ?_ rfl ?_ (by assumption) ?_
        rotate_left
        · (intro w hSw; (try dsimp only at hSw); go_simp; all_goals with_reducible rfl)
        try simp only [Act.put, sA, sB, sC]
        refine tkH 2 ⟨some 14, _, _, _, _, _⟩ ?_ rfl ?_ (by assumption) ?_
        rotate_left
        · (intro w hSw; (try dsimp only at hSw); go_simp; all_goals with_reducible rfl)
        try simp only [Act.put, sA, sB, sC]
        refine tkH 3 ⟨some 15, _, _, _, _, _⟩ ?_ rfl ?_ (by assumption) ?_
        rotate_left
        · (intro w hSw; (try dsimp only at hSw); go_simp; all_goals with_reducible rfl)
        try simp only [Act.put, sA, sB, sC]
        refine tkH 4 ⟨some 16, _, _, _, _, _⟩ ?_ rfl ?_ (by assumption) ?_
        rotate_left
        · (intro w hSw; (try dsimp only at hSw); go_simp; all_goals with_reducible rfl)
        try simp only [Act.put, sA, sB, sC]
        refine tkH 5 ⟨some 17, _, _, _, _, _⟩ ?_ rfl ?_ (by assumption) ?_
        rotate_left
        · (intro w hSw; (try dsimp only at hSw); go_simp; all_goals with_reducible rfl)
        try simp only [Act.put, sA, sB, sC]
        refine tkH 6 ⟨some 18, _, _, _, _, _⟩ ?_ rfl ?_ (by assumption) ?_
        rotate_left
        · (intro w hSw; (try dsimp only at hSw); go_simp; all_goals with_reducible rfl)
        try simp only [Act.put, sA, sB, sC]
        refine tkH 7 ⟨some 19, _, _, _, _, _⟩ ?_ rfl ?_ (by assumption) ?_
        rotate_left
        · (intro w hSw; (try dsimp only at hSw); go_simp; all_goals with_reducible rfl)
        try simp only [Act.put, sA, sB, sC]
        refine tkH 8 ⟨some 20, _, _, _, _, _⟩ ?_ rfl ?_ (by assumption) ?_
        rotate_left
        · (intro w hSw; (try dsimp only at hSw); go_simp; all_goals with_reducible rfl)
        try simp only [Act.put, sA, sB, sC]
        refine tkH 9 ⟨some 21, _, _, _, _, _⟩ ?_ rfl ?_ (by assumption) ?_
        rotate_left
        · (intro w hSw; (try dsimp only at hSw); go_simp; all_goals with_reducible rfl)
        try simp only [Act.put, sA, sB, sC]
        refine tkH 10 ⟨some 22, _, _, _, _, _⟩ ?_ rfl ?_ (by assumption) ?_
        rotate_left
        · (intro w hSw; (try dsimp only at hSw); go_simp; all_goals with_reducible rfl)
        try simp only [Act.put, sA, sB, sC]
        refine tkH 11 ⟨some 23, _, _, _, _, _⟩ ?_ rfl ?_ (by assumption) ?_
        rotate_left
        · (intro w hSw; (try dsimp only at hSw); go_simp; all_goals with_reducible rfl)
        try simp only [Act.put, sA, sB, sC]
        refine tkH 12 ⟨some 24, _, _, _, _, _⟩ ?_ rfl ?_ (by assumption) ?_
        rotate_left
        · (intro w hSw; (try dsimp only at hSw); go_simp; all_goals with_reducible rfl)
        try simp only [Act.put, sA, sB, sC]
        refine tkH 13 ⟨some 25, _, _, _, _, _⟩ ?_ rfl ?_ (by assumption) ?_
        rotate_left
        · (intro w hSw; (try dsimp only at hSw); go_simp; all_goals with_reducible rfl)
        try simp only [Act.put, sA, sB, sC]
        refine tkH 14 ⟨some 26, _, _, _, _, _⟩ ?_ rfl ?_ (by assumption) ?_
        rotate_left
        · (intro w hSw; (try dsimp only at hSw); go_simp; all_goals with_reducible rfl)
        try simp only [Act.put, sA, sB, sC]
        refine tkH 15 ⟨some 27, _, _, _, _, _⟩ ?_ rfl ?_ (by assumption) ?_
        rotate_left
        · (intro w hSw; (try dsimp only at hSw); go_simp; all_goals with_reducible rfl)
        try simp only [Act.put, sA, sB, sC]
        refine tkH 16 ⟨some 28, _, _, _, _, _⟩ ?_ rfl ?_ (by assumption) ?_
        rotate_left
        · (intro w hSw; (try dsimp only at hSw); go_simp; all_goals with_reducible rfl)
        try simp only [Act.put, sA, sB, sC]
        refine tkH 17 ⟨some 29, _, _, _, _, _⟩ ?_ rfl ?_ (by assumption) ?_
        rotate_left
        · (intro w hSw; (try dsimp only at hSw); go_simp; all_goals with_reducible rfl)
        try simp only [Act.put, sA, sB, sC]
        refine tkH 18 ⟨some 30, _, _, _, _, _⟩ ?_ rfl ?_ (by assumption) ?_
        rotate_left
        · (intro w hSw; (try dsimp only at hSw); go_simp; all_goals with_reducible rfl)
        try simp only [Act.put, sA, sB, sC]
        refine tkH 19 ⟨some 31, _, _, _, _, _⟩ ?_ rfl ?_ (by assumption) ?_
        rotate_left
        · (intro w hSw; (try dsimp only at hSw); go_simp; all_goals with_reducible rfl)
        try simp only [Act.put, sA, sB, sC]
        refine tkH 20 ⟨some 32, _, _, _, _, _⟩ ?_ rfl ?_ (by assumption) ?_
        rotate_left
        · (intro w hSw; (try dsimp only at hSw); go_simp; all_goals with_reducible rfl)
        try simp only [Act.put, sA, sB, sC]
        refine tkH 21 ⟨some 33, _, _, _, _, _⟩ ?_ rfl ?_ (by assumption) ?_
        rotate_left
        · (intro w hSw; (try dsimp only at hSw); go_simp; all_goals with_reducible rfl)
        try simp only [Act.put, sA, sB, sC]
        refine wpAnyH_done (by kernel_rfl) ?_ _
        have hT := hT0
        obtain ⟨u, rfl⟩ : ∃ z, z = v0 := ⟨_, rfl⟩
        clear hHeld
        have hBu := hB.trans (hT.mono hB.size)
        have HPu := Lib.hid (hP.out.below hT)
        have HOu := Lib.hid (own_belowG hO.out hT (Nat.le_refl _))
        have zuu := hBu.size
        have hzT := hT.size
        have HO2 : Hid (u.ownsRow (w.heap.size + 1) 55 2 (.slice C n c) n (rowsV p2V (swSt (legC s G D) (List.range (q + 1 + 1))).1)) := Lib.hid (by rw [hst.out]; exact HOu.out)
        have hn2 : Hid ((swSt (legC s G D) (List.range (q + 1 + 1))).1.length = n) := Lib.hid (by rw [hst.out]; exact hn9.out)
        clear HS hEq hT hO hP HOu
        go_wp2
        go_roundw
        case rel => exact ⟨q + 1 + 1, n, C, c, by omega, by omega, by go_num, rfl, hn2, HO2, HPu, hBu⟩
        case measure => simp [intOf]; omega
      · have hEq := eqG2 go gh qo qh false (by rw [Bool.eq_false_iff]; intro h; exact hq (by simpa using h))
        have hst : Hid ((swSt (legC s G D) (List.range (q + 1 + 1))).1 = (swSt (legC s G D) (List.range (q + 1))).1 ++ [((q : Int) + 1, (gk : Int))]) := Lib.hid (by rw [hst0.out, if_pos hq])
        clear hst0 hq
        go_upto_region 5 with (fail)
        refine wp_region_held_drew (S := (fun w' => w'.cell? ⟨w.heap.size, 0, none⟩ = some (.string nm) ∧ w'.cell? ⟨w.heap.size, 1, none⟩ = some (.int .i64 s) ∧ w'.cell? ⟨w.heap.size, 2, none⟩ = some (.slice (some ⟨gb, gf, none⟩) gn gc) ∧ w'.cell? ⟨w.heap.size, 3, none⟩ = some (.slice (some ⟨lb, lo, none⟩) dn dc) ∧ w'.cell? ⟨lb, lo + (q + 1) * 3 + 2, none⟩ = some (.int .i64 (gk : Int)) ∧ w'.cell? ⟨lb, lo + q * 3 + 2, none⟩ = some (.int .i64 (gq : Int)) ∧ w'.cell? ⟨gb, gf + gk * 2, none⟩ = some (.int .i64 go) ∧ w'.cell? ⟨gb, gf + gk * 2 + 1, none⟩ = some (.int .i64 gh) ∧ w'.cell? ⟨gb, gf + gq * 2, none⟩ = some (.int .i64 qo) ∧ w'.cell? ⟨gb, gf + gq * 2 + 1, none⟩ = some (.int .i64 qh))) (by kernel_rfl) (HS.out _ (Below.refl _ _).drew) (fun hHeld => ?_)
        have hT0 : Below wr.heap.size wr wr.drew := (Below.refl _ _).drew
        generalize hdr : wr.drew = v0 at *
        clear hdr
        refine tkH 0 ⟨some 12, _, _, _, _, _⟩ ?_ rfl ?_ (by assumption) ?_
        rotate_left
        · (intro w hSw; (try dsimp only at hSw); go_simp; all_goals with_reducible rfl)
        try simp only [Act.put, sA, sB, sC]
        refine tkH 1 ⟨some 13, _, _, _, _, _⟩ ?_ rfl ?_ (by assumption) ?_
        rotate_left
        · (intro w hSw; (try dsimp only at hSw); go_simp; all_goals with_reducible rfl)
        try simp only [Act.put, sA, sB, sC]
        refine tkH 2 ⟨some 14, _, _, _, _, _⟩ ?_ rfl ?_ (by assumption) ?_
        rotate_left
        · (intro w hSw; (try dsimp only at hSw); go_simp; all_goals with_reducible rfl)
        try simp only [Act.put, sA, sB, sC]
        refine tkH 3 ⟨some 15, _, _, _, _, _⟩ ?_ rfl ?_ (by assumption) ?_
        rotate_left
        · (intro w hSw; (try dsimp only at hSw); go_simp; all_goals with_reducible rfl)
        try simp only [Act.put, sA, sB, sC]
        refine tkH 4 ⟨some 16, _, _, _, _, _⟩ ?_ rfl ?_ (by assumption) ?_
        rotate_left
        · (intro w hSw; (try dsimp only at hSw); go_simp; all_goals with_reducible rfl)
        try simp only [Act.put, sA, sB, sC]
        refine tkH 5 ⟨some 17, _, _, _, _, _⟩ ?_ rfl ?_ (by assumption) ?_
        rotate_left
        · (intro w hSw; (try dsimp only at hSw); go_simp; all_goals with_reducible rfl)
        try simp only [Act.put, sA, sB, sC]
        refine tkH 6 ⟨some 18, _, _, _, _, _⟩ ?_ rfl ?_ (by assumption) ?_
        rotate_left
        · (intro w hSw; (try dsimp only at hSw); go_simp; all_goals with_reducible rfl)
        try simp only [Act.put, sA, sB, sC]
        refine tkH 7 ⟨some 19, _, _, _, _, _⟩ ?_ rfl ?_ (by assumption) ?_
        rotate_left
        · (intro w hSw; (try dsimp only at hSw); go_simp; all_goals with_reducible rfl)
        try simp only [Act.put, sA, sB, sC]
        refine tkH 8 ⟨some 20, _, _, _, _, _⟩ ?_ rfl ?_ (by assumption) ?_
        rotate_left
        · (intro w hSw; (try dsimp only at hSw); go_simp; all_goals with_reducible rfl)
        try simp only [Act.put, sA, sB, sC]
        refine tkH 9 ⟨some 21, _, _, _, _, _⟩ ?_ rfl ?_ (by assumption) ?_
        rotate_left
        · (intro w hSw; (try dsimp only at hSw); go_simp; all_goals with_reducible rfl)
        try simp only [Act.put, sA, sB, sC]
        refine tkH 10 ⟨some 22, _, _, _, _, _⟩ ?_ rfl ?_ (by assumption) ?_
        rotate_left
        · (intro w hSw; (try dsimp only at hSw); go_simp; all_goals with_reducible rfl)
        try simp only [Act.put, sA, sB, sC]
        refine tkH 11 ⟨some 23, _, _, _, _, _⟩ ?_ rfl ?_ (by assumption) ?_
        rotate_left
        · (intro w hSw; (try dsimp only at hSw); go_simp; all_goals with_reducible rfl)
        try simp only [Act.put, sA, sB, sC]
        refine tkH 12 ⟨some 24, _, _, _, _, _⟩ ?_ rfl ?_ (by assumption) ?_
        rotate_left
        · (intro w hSw; (try dsimp only at hSw); go_simp; all_goals with_reducible rfl)
        try simp only [Act.put, sA, sB, sC]
        refine tkH 13 ⟨some 25, _, _, _, _, _⟩ ?_ rfl ?_ (by assumption) ?_
        rotate_left
        · (intro w hSw; (try dsimp only at hSw); go_simp; all_goals with_reducible rfl)
        try simp only [Act.put, sA, sB, sC]
        refine tkH 14 ⟨some 26, _, _, _, _, _⟩ ?_ rfl ?_ (by assumption) ?_
        rotate_left
        · (intro w hSw; (try dsimp only at hSw); go_simp; all_goals with_reducible rfl)
        try simp only [Act.put, sA, sB, sC]
        refine tkH 15 ⟨some 27, _, _, _, _, _⟩ ?_ rfl ?_ (by assumption) ?_
        rotate_left
        · (intro w hSw; (try dsimp only at hSw); go_simp; all_goals with_reducible rfl)
        try simp only [Act.put, sA, sB, sC]
        refine tkH 16 ⟨some 28, _, _, _, _, _⟩ ?_ rfl ?_ (by assumption) ?_
        rotate_left
        · (intro w hSw; (try dsimp only at hSw); go_simp; all_goals with_reducible rfl)
        try simp only [Act.put, sA, sB, sC]
        refine tkH 17 ⟨some 29, _, _, _, _, _⟩ ?_ rfl ?_ (by assumption) ?_
        rotate_left
        · (intro w hSw; (try dsimp only at hSw); go_simp; all_goals with_reducible rfl)
        try simp only [Act.put, sA, sB, sC]
        refine tkH 18 ⟨some 30, _, _, _, _, _⟩ ?_ rfl ?_ (by assumption) ?_
        rotate_left
        · (intro w hSw; (try dsimp only at hSw); go_simp; all_goals with_reducible rfl)
        try simp only [Act.put, sA, sB, sC]
        refine tkH 19 ⟨some 31, _, _, _, _, _⟩ ?_ rfl ?_ (by assumption) ?_
        rotate_left
        · (intro w hSw; (try dsimp only at hSw); go_simp; all_goals with_reducible rfl)
        try simp only [Act.put, sA, sB, sC]
        refine tkH 20 ⟨some 32, _, _, _, _, _⟩ ?_ rfl ?_ (by assumption) ?_
        rotate_left
        · (intro w hSw; (try dsimp only at hSw); go_simp; all_goals with_reducible rfl)
        try simp only [Act.put, sA, sB, sC]
        refine tkH 21 ⟨some 33, _, _, _, _, _⟩ ?_ rfl ?_ (by assumption) ?_
        rotate_left
        · (intro w hSw; (try dsimp only at hSw); go_simp; all_goals with_reducible rfl)
        try simp only [Act.put, sA, sB, sC]
        refine wpAnyH_done (by kernel_rfl) ?_ _
        have hT := hT0
        obtain ⟨u, rfl⟩ : ∃ z, z = v0 := ⟨_, rfl⟩
        clear hHeld
        have hBu := hB.trans (hT.mono hB.size)
        have HPu := Lib.hid (hP.out.below hT)
        have HOu := Lib.hid (own_belowG hO.out hT (Nat.le_refl _))
        have zuu := hBu.size
        have hzT := hT.size
        obtain ⟨L1, hL1⟩ : ∃ z, Hid ((swSt (legC s G D) (List.range (q + 1))).1 = z) := ⟨_, Lib.hid rfl⟩
        rw [hL1.out] at hst hn9 HOu
        obtain ⟨c0, c1, c2, c3, e0, e1, _, _, _, _⟩ := HS.out _ hT
        clear HS hEq hT hO hP
        go_wp2_with (at_builtin; refine wpList_append_slG rfl _ _ 80 rfl (w.heap.size + 1) 55 i0 (.agg #[.int .i64 0, .int .i64 0]) 2 16 Try.underlying80 HI.out HZ0.out HZ1.out HZ2.out rfl (by decide) (.slice C n c) n (rowsV p2V L1) rfl (own_belowG HOu.out ((Below.refl _ _).alloc (Nat.le_refl _) _) (Nat.le_refl _)) (some ⟨u.heap.size, 0, none⟩) 1 1 [.int .i64 ((q : Int) + 1), .int .i64 gk] rfl (fun h => by cases h) rfl (fun ad had j v hj => by cases had; rw [addNR, Nat.zero_add]; exact (BlkF.made (B := 0) u [.int .i64 ((q : Int) + 1), .int .i64 (gk : Int)] 55 (Nat.zero_le _)).at' j v hj) (by intro v hv; simp at hv; rcases hv with rfl | rfl <;> rfl) (by unfold maxLen; omega) (by omega) (by simp; omega) ?_)
        intro rv X0 hown hgrow hblk
        have hNX : Below (w.heap.size + 1) u X0 := ((Below.refl (w.heap.size + 1) u).alloc (by omega) _).grown hgrow (by simp; omega) (fun r hr => (own_blockG HOu.out r hr).1)
        obtain ⟨lq, hlq⟩ : ∃ z, Hid ((L1 ++ [((q : Int) + 1, (gk : Int))]).length = z) := ⟨_, Lib.hid rfl⟩
        obtain ⟨A5, c5, hrv, _, _, _, _, _⟩ := SlRows_own (f := p2V) (n := 2) (L := L1 ++ [((q : Int) + 1, (gk : Int))]) (fun _ => rfl) (by rw [rowsV_appG, List.length_append, hn9.out]; exact hown)
        rw [hlq.out] at hrv
        subst hrv
        have HO2 : Hid (X0.ownsRow (w.heap.size + 1) 55 2 (.slice A5 lq c5) lq (rowsV p2V (swSt (legC s G D) (List.range (q + 1 + 1))).1)) := Lib.hid (by rw [hst.out, rowsV_appG, ← hlq.out, List.length_append, hn9.out]; rw [← hlq.out, List.length_append, hn9.out] at hown; exact hown)
        have hn2 : Hid ((swSt (legC s G D) (List.range (q + 1 + 1))).1.length = lq) := Lib.hid (by rw [hst.out]; exact hlq.out)
        have HP2 := Lib.hid (blkF_belowN HPu.out hNX (by omega))
        have hB2 := hBu.trans (hNX.mono (by omega))
        clear hown hgrow hblk hNX HOu HPu c0 c1 c2 c3 e0 e1 hlq
        go_wp2
        go_roundw
        case rel => exact ⟨q + 1 + 1, lq, A5, c5, by omega, by omega, by go_num, rfl, hn2, HO2, HP2, hB2⟩
        case measure => simp [intOf]; omega
    · have kn : ¬ (k : Int) < (dn : Int) := by omega
      obtain ⟨A5, c5, hrv, hS5, _, _, _, _⟩ := SlRows_own (f := p2V) (n := 2) (L := (swSt (legC s G D) (List.range k)).1) (fun _ => rfl) (by rw [hn9.out]; exact hO.out)
      rw [hn9.out] at hrv
      injection hrv with e1 e2 e3
      subst e1
      have hEQ : Hid ((swSt (legC s G D) (List.range k)).1 = (swSt (legC s G D) (List.range dn)).1) := Lib.hid (by
        by_cases h : dn = 0
        · rw [show k = 1 by omega, swSt_one, h]; rfl
        · rw [show k = dn by omega])
      obtain ⟨c0, c1, c2, c3⟩ := b4 hP.out
      have HF := Lib.hid hS5
      clear hS5 hO
      go_wp2
      go_ret
      have hn3 := hn9.out
      have hS6 := HF.out
      rw [hEQ.out] at hn3 hS6
      rw [hn3]
      first | exact ⟨C, ⟨_, rfl⟩, hS6, hB⟩ | exact ⟨C, _, rfl, hS6, hB⟩
end Go.Proofs.Ytijdphlejokijaa
