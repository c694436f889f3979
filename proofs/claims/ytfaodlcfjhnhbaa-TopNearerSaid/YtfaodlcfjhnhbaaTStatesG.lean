/- The walk over the states of a course, for every table, any leg and fineness: what the function that (course).states hands back does. -/
import Derived.Test.YtfaodlcfjhnhbaaTCkG
import Derived.RangeFuncNested
import Derived.RangeFuncBound
import Derived.RangeFuncCalls
import Derived.RangeFuncLeaves
import Derived.Shelf.Abstract
import Derived.Shelf.RegionOpen
import Derived.OwnWalkIn
import Derived.TacticsInMore
import Derived.LoopNIn
import Derived.LoopIn
import Derived.Sort.CutIn
import Derived.Deep.DrawnRows
import Derived.Outline
namespace Go.Proofs.Ytfaodlcfjhnhbaa
open Go.ChangeShapes Go.WideShapes Go.ChangeAt Go.RowKit Go.Shelf
open Go.ChangeMaps (setBlock)
set_option linter.unusedVariables false
set_option linter.unusedSimpArgs false
attribute [local go_sem] Oper.semAt_some
attribute [local go_sem ↓] Go.wp_at_zero Go.wp_at_succ



/-- The state at the k-th mark. -/
def AtG (vf vt vs : Int) (nf : Nat) (vo vh : Int) (T : List Cm) (P0 : List Ld) (k : Nat) (P : List Ld) (s p0 p1 : Int) : Prop := P = ldR vf vt vs nf vo vh T P0 k ∧ mkS vs nf k = s ∧ mkLo vf vt vs nf k = p0 ∧ mkHi vf vt vs nf k = p1
theorem AtG.next {vf vt vs : Int} {nf : Nat} {vo vh : Int} {T : List Cm} {P0 : List Ld} {k : Nat} {P : List Ld} {s p0 p1 sn pn0 pn1 ds ar0 ar1 y0 y1 y2 y3 : Int} (hA : AtG vf vt vs nf vo vh T P0 k P s p0 p1) (hsn : mkS vs nf ((k : Int) + 1) = sn) (h0 : mkLo vf vt vs nf ((k : Int) + 1) = pn0) (h1 : mkHi vf vt vs nf ((k : Int) + 1) = pn1) (hd : sn - s = ds) (ha0 : min p0 pn0 = ar0) (ha1 : max p1 pn1 = ar1)
    (e0 : (1000 - vo - vh) * (ar0 - 63) = y0) (e1 : (1000 - vo - vh) * (ar1 - 63) = y1) (e2 : vh * (ar0 - 63) = y2) (e3 : vh * (ar1 - 63) = y3) : AtG vf vt vs nf vo vh T P0 (k + 1) ((List.range T.length).map (stepR ds (8 + 2 * nf) T P y0 y1 y2 y3)) sn pn0 pn1 := by
  obtain ⟨rfl, rfl, rfl, rfl⟩ := hA
  subst hsn h0 h1 hd ha0 ha1 e0 e1 e2 e3
  exact ⟨rfl, rfl, rfl, rfl⟩
theorem behind_y (T : List Cm) (P : List Ld) (s p0 p1 p2 p3 : Int) (L q qf qc bb : Nat) (w : World) (hT0 : Hid (TbOk T)) (hP : Hid (P.length = T.length ∧ LdOk P)) (h0 : 0 ≤ p0 ∧ p0 ≤ 100000000) (h1 : 0 ≤ p1 ∧ p1 ≤ 100000000) (h2 : 0 ≤ p2 ∧ p2 ≤ 100000000) (h3 : 0 ≤ p3 ∧ p3 ≤ 100000000) (hq : q < w.heap.size) (hL : LdAt w q qf P) (hb : bb < w.heap.size) (hD : LdAt w bb 0 ((List.range T.length).map (decAt s L T))) :
    Calls Try.prog 38 #[.slice (some ⟨q, qf, none⟩) T.length qc, .agg #[.int .i64 p0, .int .i64 p1, .int .i64 p2, .int .i64 p3], .slice (some ⟨bb, 0, none⟩) T.length T.length] w fun e w' => ∃ b, e = .returned (.slice (some ⟨b, 0, none⟩) T.length T.length) ∧ w.heap.size ≤ b ∧ b < w'.heap.size ∧ LdAt w' b 0 ((List.range T.length).map (stepR s L T P p0 p1 p2 p3)) ∧ Below w.heap.size w w' := by
  obtain ⟨t1, t2, t3⟩ := hT0.out
  obtain ⟨hn, ho⟩ := hP.out
  have := behindStep_all P ((List.range T.length).map (decAt s L T)) (some ⟨q, qf, none⟩) (some ⟨bb, 0, none⟩) qc T.length p0 p1 p2 p3 w (by omega) (by omega) (by simp [hn]) ho (fun k hk => by
      have hkt : k < T.length := by simpa using hk
      obtain ⟨⟨n0, _⟩, n2, _⟩ := t3 k hkt
      have e1 := dec_bd (s := s) (h := T[k].n) (by omega) L
      have e2 := dec_bd (s := s) (h := T[k].h) (by omega) L
      simp only [List.getElem_map, List.getElem_range]
      unfold decAt
      rw [getD_of hkt]
      exact ⟨⟨e1.1, e1.2.1⟩, ⟨e1.2.2.1, e1.2.2.2⟩, ⟨e2.1, e2.2.1⟩, e2.2.2.1, e2.2.2.2⟩) h0 h1 h2 h3 (Or.inr ⟨q, qf, rfl, hq, hL⟩) (Or.inr ⟨bb, 0, rfl, hb, hD⟩)
  rw [hn] at this
  refine this.mono ?_
  rintro e w' ⟨b, rfl, hb', hS, hB⟩
  obtain ⟨k1, k2⟩ := hS.lies (by simp; omega)
  refine ⟨b, rfl, hb', k1, ?_, hB⟩
  rwa [show (List.range T.length).map (stepAt p0 p1 p2 p3 P ((List.range T.length).map (decAt s L T))) = (List.range T.length).map (stepR s L T P p0 p1 p2 p3) from List.map_congr_left (fun k hk => stepR_eq (List.mem_range.1 hk))] at k2
set_option maxRecDepth 100000 in
set_option maxHeartbeats 8000000 in
theorem states1_any (cb lx fb b4 b1 b3 bm bB tb tq tcap rb rcap q0 qo qcap : Nat) (vf vt vs vo vh : Int) (nf : Nat) (T : List Cm) (P0 : List Ld) (ol od : Obj) (l D N m K : Nat) (w : World) (v0 : Value)
    (HE : Hid (EnvG cb lx fb b4 b1 b3 bm bB tb tq tcap rb rcap q0 qo qcap vf vt vs vo vh nf T P0 ol od l D N w)) (hN : w.heap.size = N) (hm : Hid (w.heap[bm]? = some (.map #[] 0))) (hv : Hid (w.cell? ⟨bB, 0, none⟩ = some v0 ∧ w.frozen? ⟨bB, 0, none⟩ = false)) (hm3 : 3 ≤ m) (hrc : Hid (8 + 2 * nf + 1 ≤ rcap ∧ rcap ≤ maxLen)) (HLG : Hid (LegOk vf vt vs vo vh nf)) (HT0 : Hid (TbOk T)) (HP0 : Hid (P0.length = T.length ∧ LdOk P0)) (HK : Hid (stN vs nf = K ∧ stK vs nf = K)) (HY : Hid (Yields (m - 1) l D bB N ol od)) :
    CallsIn Fence.wide m Try.prog 63 #[.func (.yield l) #[] #[], .pointer (some ⟨cb, 0, none⟩), .pointer (some ⟨lx, 0, none⟩), .pointer (some ⟨fb, 0, none⟩)] w (StatesEndG T.length (ldR vf vt vs nf vo vh T P0 K) bm bB N w) := by
  have HNN := Lib.hid hN
  have HRT := Lib.hid HE.out
  obtain ⟨hcb, hlx, hfb, hb4, hb1, hb3, hbm, hbB, htb, hrb, hq0, hl, hD⟩ := HE.out.lt
  have hn6 : nf ≤ 6 := HLG.out.2.2.2.2
  have HK1 : Hid (stN vs nf = K) := Lib.hid HK.out.1
  have hK64 : K ≤ 64 := by
    have h1 := HK.out.1
    unfold stN at h1
    split at h1
    · omega
    · have : 2 ^ nf ≤ 2 ^ 6 := Nat.pow_le_pow_right (by omega) hn6
      have h2 : 2 ^ nf = K := by exact_mod_cast h1
      omega
  have HKP : Hid ((K : Int) ≤ ((2 ^ nf : Nat) : Int)) := Lib.hid (stK_le (s := vs) (n := nf) (j := K) (by rw [HK.out.2]; omega))
  obtain ⟨ms0, hms0⟩ : ∃ x, Hid (mkS vs nf 0 = x) := ⟨_, Lib.hid rfl⟩
  obtain ⟨ml0, hml0⟩ : ∃ x, Hid (mkLo vf vt vs nf 0 = x) := ⟨_, Lib.hid rfl⟩
  obtain ⟨mh0, hmh0⟩ : ∃ x, Hid (mkHi vf vt vs nf 0 = x) := ⟨_, Lib.hid rfl⟩
  have c0 := HE.out.c0
  have c1 := HE.out.c1
  have c2 := HE.out.c2
  have c3 := HE.out.c3
  have c4 := HE.out.c4
  have c5 := HE.out.c5
  have c6 := HE.out.c6
  have lc := HE.out.lc
  rw [← HNN.out] at hcb hlx hfb hb4 hb1 hb3 hbm hbB htb hrb hq0 hl hD
  clear hN
  have HS : ∀ w', Below w.heap.size w w' → w'.cell? ⟨cb, 0, none⟩ = some (.int .i64 vf) ∧ w'.cell? ⟨cb, 1, none⟩ = some (.int .i64 vt) ∧ w'.cell? ⟨cb, 2, none⟩ = some (.int .i64 vs) ∧ w'.cell? ⟨cb, 3, none⟩ = some (.int .i64 vo) ∧ w'.cell? ⟨cb, 4, none⟩ = some (.int .i64 vh) ∧ w'.cell? ⟨cb, 5, none⟩ = some (.slice (some ⟨tb, tq, none⟩) T.length tcap) ∧ w'.cell? ⟨cb, 6, none⟩ = some (.int .i64 nf) ∧ w'.cell? ⟨lx, 0, none⟩ = some (.slice (some ⟨q0, qo, none⟩) T.length qcap) := fun w' hb => ⟨(hb.cell (p := ⟨cb, 0, none⟩) hcb).trans c0, (hb.cell (p := ⟨cb, 1, none⟩) hcb).trans c1, (hb.cell (p := ⟨cb, 2, none⟩) hcb).trans c2, (hb.cell (p := ⟨cb, 3, none⟩) hcb).trans c3, (hb.cell (p := ⟨cb, 4, none⟩) hcb).trans c4, (hb.cell (p := ⟨cb, 5, none⟩) hcb).trans c5, (hb.cell (p := ⟨cb, 6, none⟩) hcb).trans c6, (hb.cell (p := ⟨lx, 0, none⟩) hlx).trans lc⟩
  have HS' := Lib.hid HS
  clear HS c0 c1 c2 c3 c4 c5 c6 lc
  refine callsIn_of_wp Try.func63 rfl trivial ?_
  simp only [Try.ntmps63, List.size_toArray, List.length_cons, List.length_nil, Nat.reduceAdd, Nat.reduceSub, Array.replicate_succ, Array.replicate_zero, List.push_toArray, List.append_toArray, List.nil_append, List.cons_append]
  gi_upto_region 0 with (fail)
  gi_cut [5] from 9 (fun s5 wx => St0G w P0 T.length 0 ms0 ml0 mh0 s5 wx)
  case first =>
    refine wpIn_wide.2 ?_
    clear HE hm hv HY hfb hb4 hb1 hb3 hbm hbB htb hrb hl hD
    refine wp_region_held_drew (S := (fun w' => w'.cell? ⟨cb, 0, none⟩ = some (.int .i64 vf) ∧ w'.cell? ⟨cb, 1, none⟩ = some (.int .i64 vt) ∧ w'.cell? ⟨cb, 2, none⟩ = some (.int .i64 vs) ∧ w'.cell? ⟨cb, 3, none⟩ = some (.int .i64 vo) ∧ w'.cell? ⟨cb, 4, none⟩ = some (.int .i64 vh) ∧ w'.cell? ⟨cb, 5, none⟩ = some (.slice (some ⟨tb, tq, none⟩) T.length tcap) ∧ w'.cell? ⟨cb, 6, none⟩ = some (.int .i64 nf) ∧ w'.cell? ⟨lx, 0, none⟩ = some (.slice (some ⟨q0, qo, none⟩) T.length qcap))) (by kernel_rfl) (by exact HS'.out _ (Below.refl w.heap.size w).drew) (fun hHeld => ?_)
    refine wpAnyH_take (i := 0) (oi := ⟨some 9, _, _, _, _, _⟩) (v := ?_) rfl (by kernel_rfl) (by kernel_rfl) (by kernel_rfl) (fun _ _ _ h => h) (Or.inl ⟨by kernel_rfl, ?_⟩) (by assumption) ?_
    rotate_left
    · (intro w hSw; (try dsimp only at hSw); go_simp; all_goals with_reducible rfl)
    try simp only [Act.put, List.setIfInBounds_toArray, List.set_cons_zero, List.set_cons_succ]
    refine wpAnyH_take (i := 2) (oi := ⟨some 11, _, _, _, _, _⟩) (v := ?_) rfl (by kernel_rfl) (by kernel_rfl) (by kernel_rfl) (fun _ _ _ h => h) (Or.inl ⟨by kernel_rfl, ?_⟩) (by assumption) ?_
    rotate_left
    · (intro w hSw; (try dsimp only at hSw); go_simp; all_goals with_reducible rfl)
    try simp only [Act.put, List.setIfInBounds_toArray, List.set_cons_zero, List.set_cons_succ]
    refine wpAnyH_ready (rs := [1, 5]) (by kernel_rfl) (by simp) ?_
    refine AllReadyH.cons rfl (fun K hK => ?_) (AllReadyH.cons rfl (fun K hK => ?_) (AllReadyH.nil))
    · skip
      go_simp
      refine (mark_y vf vt vs vo vh 0 T.length tcap (some ⟨tb, tq, none⟩) nf _ ms0 ml0 mh0 HLG (by omega) (Int.natCast_nonneg _) hms0 hml0 hmh0).mono ?_
      rintro e v1 ⟨rfl, hb1⟩
      have z1 := hb1.size
      (try simp at z1)
      have hB1 : Below w.heap.size w v1 := ((Below.refl w.heap.size w).drew).trans (hb1.mono ((Below.refl w.heap.size w).drew).size)
      clear hb1
      go_wp2_with fail
      refine hK.out _ _ (HS'.out _ (hB1)) (fun hHeld => ?_)
      clear hK K
      try simp only [Act.put, List.setIfInBounds_toArray, List.set_cons_zero, List.set_cons_succ]
      refine wpAnyH_ready (rs := [3, 5]) (by kernel_rfl) (by simp) ?_
      refine AllReadyH.cons rfl (fun K hK => ?_) (AllReadyH.cons rfl (fun K hK => ?_) (AllReadyH.nil))
      · skip
        go_simp
        refine (clone_y P0 T.length q0 qo qcap v1 HP0.out.1 HT0.out.1 HT0.out.2.1 (Nat.lt_of_lt_of_le hq0 (hB1).size) (HRT.out.keep (BelowX.of (hB1) (Nat.le_of_eq HNN.out.symm))).pp).mono ?_
        rintro e v2 ⟨q, qf, qc, rfl, ⟨hq1, hq2⟩, rr, hb2⟩
        have z2 := hb2.size
        (try simp at z2)
        have hq3 : w.heap.size ≤ q := Nat.le_trans (hB1).size hq1
        try simp at hq1
        have RR := Lib.hid rr
        clear rr
        have hB2 : Below w.heap.size w v2 := (hB1).trans (hb2.mono (hB1).size)
        clear hb2
        go_wp2_with fail
        refine hK.out _ _ (HS'.out _ (hB2)) (fun hHeld => ?_)
        clear hK K
        try simp only [Act.put, List.setIfInBounds_toArray, List.set_cons_zero, List.set_cons_succ]
        refine wpAnyH_take (i := 4) (oi := ⟨some 13, _, _, _, _, _⟩) (v := ?_) rfl (by kernel_rfl) (by kernel_rfl) (by kernel_rfl) (fun _ _ _ h => h) (Or.inl ⟨by kernel_rfl, ?_⟩) (by assumption) ?_
        rotate_left
        · (intro w hSw; (try dsimp only at hSw); go_simp; all_goals with_reducible rfl)
        try simp only [Act.put, List.setIfInBounds_toArray, List.set_cons_zero, List.set_cons_succ]
        refine wpAnyH_ready (rs := [5]) (by kernel_rfl) (by simp) ?_
        refine AllReadyH.cons rfl (fun K hK => ?_) (AllReadyH.nil)
        go_simp
        go_wp2_with fail
        refine hK.out _ _ (HS'.out _ ((hB2).alloc (hB2).size _)) (fun hHeld => ?_)
        clear hK K
        try simp only [Act.put, List.setIfInBounds_toArray, List.set_cons_zero, List.set_cons_succ]
        have lt2a : v2.heap.size < (v2.alloc (.cells #[.int .i64 0, .int .i64 0, .int .i64 0, .int .i64 0, .slice none 0 0] 93)).heap.size := by simp
        refine wpAnyH_ready (rs := [6]) (by kernel_rfl) (by simp) ?_
        refine AllReadyH.cons rfl (fun K hK => ?_) (AllReadyH.nil)
        go_simp
        go_wp2_with fail
        refine hK.out _ _ (HS'.out _ ((hB2).alloc (hB2).size _)) (fun hHeld => ?_)
        clear hK K
        try simp only [Act.put, List.setIfInBounds_toArray, List.set_cons_zero, List.set_cons_succ]
        refine wpAnyH_done (by kernel_rfl) ?_ _
        go_wp2_with fail
        gi_meet
        exact St0G.new (hB2) hq3 hq2 RR.out
      · skip
        go_simp
        go_wp2_with fail
        refine hK.out _ _ (HS'.out _ ((hB1).alloc (hB1).size _)) (fun hHeld => ?_)
        clear hK K
        try simp only [Act.put, List.setIfInBounds_toArray, List.set_cons_zero, List.set_cons_succ]
        have lt1a : v1.heap.size < (v1.alloc (.cells #[.int .i64 0, .int .i64 0, .int .i64 0, .int .i64 0, .slice none 0 0] 93)).heap.size := by simp
        refine wpAnyH_ready (rs := [3]) (by kernel_rfl) (by simp) ?_
        refine AllReadyH.cons rfl (fun K hK => ?_) (AllReadyH.nil)
        go_simp
        refine (clone_y P0 T.length q0 qo qcap (v1.alloc (.cells #[.int .i64 0, .int .i64 0, .int .i64 0, .int .i64 0, .slice none 0 0] 93)) HP0.out.1 HT0.out.1 HT0.out.2.1 (Nat.lt_of_lt_of_le hq0 ((hB1).alloc (hB1).size _).size) (HRT.out.keep (BelowX.of ((hB1).alloc (hB1).size _) (Nat.le_of_eq HNN.out.symm))).pp).mono ?_
        rintro e v2 ⟨q, qf, qc, rfl, ⟨hq1, hq2⟩, rr, hb2⟩
        have z2 := hb2.size
        (try simp at z2)
        have hq3 : w.heap.size ≤ q := Nat.le_trans ((hB1).alloc (hB1).size _).size hq1
        try simp at hq1
        have RR := Lib.hid rr
        clear rr
        have has2 : (∀ i, i < 5 → ∃ v, v2.cell? ⟨v1.heap.size, i, none⟩ = some v) ∧ (∀ j, v2.frozen? ⟨v1.heap.size, j, none⟩ = false) := has5_below (w := (v1.alloc (.cells #[.int .i64 0, .int .i64 0, .int .i64 0, .int .i64 0, .slice none 0 0] 93))) (new5_is v1 _ _ _ _ _ 93) hb2 lt1a
        have lt2 : v1.heap.size < v2.heap.size := Nat.lt_of_lt_of_le lt1a hb2.size
        have hB2 : Below w.heap.size w v2 := ((hB1).alloc (hB1).size _).trans (hb2.mono ((hB1).alloc (hB1).size _).size)
        clear hb2
        go_wp2_with fail
        refine hK.out _ _ (HS'.out _ (hB2)) (fun hHeld => ?_)
        clear hK K
        try simp only [Act.put, List.setIfInBounds_toArray, List.set_cons_zero, List.set_cons_succ]
        refine wpAnyH_take (i := 4) (oi := ⟨some 13, _, _, _, _, _⟩) (v := ?_) rfl (by kernel_rfl) (by kernel_rfl) (by kernel_rfl) (fun _ _ _ h => h) (Or.inl ⟨by kernel_rfl, ?_⟩) (by assumption) ?_
        rotate_left
        · (intro w hSw; (try dsimp only at hSw); go_simp; all_goals with_reducible rfl)
        try simp only [Act.put, List.setIfInBounds_toArray, List.set_cons_zero, List.set_cons_succ]
        have hab : w.heap.size ≤ v1.heap.size := (hB1).size
        obtain ⟨he, hf⟩ := has2
        obtain ⟨ev0, e0⟩ := he 0 (by omega)
        obtain ⟨ev1, e1⟩ := he 1 (by omega)
        obtain ⟨ev2, e2⟩ := he 2 (by omega)
        obtain ⟨ev3, e3⟩ := he 3 (by omega)
        obtain ⟨ev4, e4⟩ := he 4 (by omega)
        refine wpAnyH_ready (rs := [6]) (by kernel_rfl) (by simp) ?_
        refine AllReadyH.cons rfl (fun K hK => ?_) (AllReadyH.nil)
        go_simp
        go_wp2_with fail
        refine hK.out _ _ (HS'.out _ (set5_below (hB2) hab)) (fun hHeld => ?_)
        clear hK K
        try simp only [Act.put, List.setIfInBounds_toArray, List.set_cons_zero, List.set_cons_succ]
        refine wpAnyH_done (by kernel_rfl) ?_ _
        go_wp2_with fail
        gi_meet
        exact St0G.of (hB2) hab lt2 ⟨he, hf⟩ hq3 hq2 (by first | omega | (simp at *; omega)) RR.out
    · skip
      go_simp
      go_wp2_with fail
      refine hK.out _ _ (HS'.out _ (((Below.refl w.heap.size w).drew).alloc ((Below.refl w.heap.size w).drew).size _)) (fun hHeld => ?_)
      clear hK K
      try simp only [Act.put, List.setIfInBounds_toArray, List.set_cons_zero, List.set_cons_succ]
      have lt0a : w.heap.size < (w.drew.alloc (.cells #[.int .i64 0, .int .i64 0, .int .i64 0, .int .i64 0, .slice none 0 0] 93)).heap.size := by simp
      refine wpAnyH_ready (rs := [1]) (by kernel_rfl) (by simp) ?_
      refine AllReadyH.cons rfl (fun K hK => ?_) (AllReadyH.nil)
      go_simp
      refine (mark_y vf vt vs vo vh 0 T.length tcap (some ⟨tb, tq, none⟩) nf _ ms0 ml0 mh0 HLG (by omega) (Int.natCast_nonneg _) hms0 hml0 hmh0).mono ?_
      rintro e v1 ⟨rfl, hb1⟩
      have z1 := hb1.size
      (try simp at z1)
      have has1 : (∀ i, i < 5 → ∃ v, v1.cell? ⟨w.heap.size, i, none⟩ = some v) ∧ (∀ j, v1.frozen? ⟨w.heap.size, j, none⟩ = false) := has5_below (w := (w.drew.alloc (.cells #[.int .i64 0, .int .i64 0, .int .i64 0, .int .i64 0, .slice none 0 0] 93))) (new5_is w.drew _ _ _ _ _ 93) hb1 lt0a
      have lt1 : w.heap.size < v1.heap.size := Nat.lt_of_lt_of_le lt0a hb1.size
      have hB1 : Below w.heap.size w v1 := (((Below.refl w.heap.size w).drew).alloc ((Below.refl w.heap.size w).drew).size _).trans (hb1.mono (((Below.refl w.heap.size w).drew).alloc ((Below.refl w.heap.size w).drew).size _).size)
      clear hb1
      go_wp2_with fail
      refine hK.out _ _ (HS'.out _ (hB1)) (fun hHeld => ?_)
      clear hK K
      try simp only [Act.put, List.setIfInBounds_toArray, List.set_cons_zero, List.set_cons_succ]
      refine wpAnyH_ready (rs := [3]) (by kernel_rfl) (by simp) ?_
      refine AllReadyH.cons rfl (fun K hK => ?_) (AllReadyH.nil)
      go_simp
      refine (clone_y P0 T.length q0 qo qcap v1 HP0.out.1 HT0.out.1 HT0.out.2.1 (Nat.lt_of_lt_of_le hq0 (hB1).size) (HRT.out.keep (BelowX.of (hB1) (Nat.le_of_eq HNN.out.symm))).pp).mono ?_
      rintro e v2 ⟨q, qf, qc, rfl, ⟨hq1, hq2⟩, rr, hb2⟩
      have z2 := hb2.size
      (try simp at z2)
      have hq3 : w.heap.size ≤ q := Nat.le_trans (hB1).size hq1
      try simp at hq1
      have RR := Lib.hid rr
      clear rr
      have has2 : (∀ i, i < 5 → ∃ v, v2.cell? ⟨w.heap.size, i, none⟩ = some v) ∧ (∀ j, v2.frozen? ⟨w.heap.size, j, none⟩ = false) := has5_below (w := v1) has1 hb2 lt1
      have lt2 : w.heap.size < v2.heap.size := Nat.lt_of_lt_of_le lt1 hb2.size
      have hB2 : Below w.heap.size w v2 := (hB1).trans (hb2.mono (hB1).size)
      clear hb2
      go_wp2_with fail
      refine hK.out _ _ (HS'.out _ (hB2)) (fun hHeld => ?_)
      clear hK K
      try simp only [Act.put, List.setIfInBounds_toArray, List.set_cons_zero, List.set_cons_succ]
      refine wpAnyH_take (i := 4) (oi := ⟨some 13, _, _, _, _, _⟩) (v := ?_) rfl (by kernel_rfl) (by kernel_rfl) (by kernel_rfl) (fun _ _ _ h => h) (Or.inl ⟨by kernel_rfl, ?_⟩) (by assumption) ?_
      rotate_left
      · (intro w hSw; (try dsimp only at hSw); go_simp; all_goals with_reducible rfl)
      try simp only [Act.put, List.setIfInBounds_toArray, List.set_cons_zero, List.set_cons_succ]
      have hab : w.heap.size ≤ w.heap.size := ((Below.refl w.heap.size w).drew).size
      obtain ⟨he, hf⟩ := has2
      obtain ⟨ev0, e0⟩ := he 0 (by omega)
      obtain ⟨ev1, e1⟩ := he 1 (by omega)
      obtain ⟨ev2, e2⟩ := he 2 (by omega)
      obtain ⟨ev3, e3⟩ := he 3 (by omega)
      obtain ⟨ev4, e4⟩ := he 4 (by omega)
      refine wpAnyH_ready (rs := [6]) (by kernel_rfl) (by simp) ?_
      refine AllReadyH.cons rfl (fun K hK => ?_) (AllReadyH.nil)
      go_simp
      go_wp2_with fail
      refine hK.out _ _ (HS'.out _ (set5_below (hB2) hab)) (fun hHeld => ?_)
      clear hK K
      try simp only [Act.put, List.setIfInBounds_toArray, List.set_cons_zero, List.set_cons_succ]
      refine wpAnyH_done (by kernel_rfl) ?_ _
      go_wp2_with fail
      gi_meet
      exact St0G.of (hB2) hab lt2 ⟨he, hf⟩ hq3 hq2 (by first | omega | (simp at *; omega)) RR.out
  case rest =>
    obtain ⟨b5, qa, qfa, qca, rfl, hck⟩ := CKG.of HRT.out HNN.out hm.out hv.out hcut
    have CK0 := Lib.hid hck
    clear hck hcut
    have hm1 : 1 ≤ m := by omega
    have k0 := CK0.out.env.c0
    have k1 := CK0.out.env.c1
    have k2 := CK0.out.env.c2
    have k3 := CK0.out.env.c3
    have k4 := CK0.out.env.c4
    have k5 := CK0.out.env.c5
    have k6 := CK0.out.env.c6
    gi_wp2_with fail
    refine ⟨trivial, (callsIn_wide.2 (stepCount_y vf vt vs vo vh T.length tcap (some ⟨tb, tq, none⟩) nf K _ hn6 HK1)).mono ?_⟩
    rintro e w1 ⟨rfl, hbw1⟩
    have CK1 := Lib.hid (CK0.out.below hbw1)
    have HA0 : Hid (AtG vf vt vs nf vo vh T P0 0 P0 ms0 ml0 mh0) := Lib.hid ⟨rfl, hms0.out, hml0.out, hmh0.out⟩
    clear k0 k1 k2 k3 k4 k5 k6 hbw1 CK0 HS' hcb hlx hfb hb4 hb1 hb3 hbm hbB htb hrb hq0 hl hD hms0 hml0 hmh0
    gi_wp2_with fail
    gi_loopw [16] (fun i wr => ∃ (k : Nat) (P : List Ld) (sj pj0 pj1 : Int) (es : Array MapEntry) (mc q qf qc : Nat), i = .int .i64 k ∧ k ≤ K ∧ Hid (CKG cb lx fb b4 b1 b3 bm bB tb tq tcap rb rcap q0 qo qcap vf vt vs vo vh nf T P0 ol od l D N w P k sj pj0 pj1 es mc b5 q qf qc wr) ∧ Hid (AtG vf vt vs nf vo vh T P0 k P sj pj0 pj1)) (fun i _ => K - (intOf i).toNat)
    case atStart => exact ⟨0, P0, ms0, ml0, mh0, #[], 0, qa, qfa, qca, rfl, by omega, CK1, HA0⟩
    clear CK1 HA0
    case round =>
    obtain ⟨k, P, sj, pj0, pj1, es, mc, q, qf, qc, rfl, hk, CK1, HA⟩ := hrel
    by_cases hkl : k < K
    · have hkl2 : (k : Int) < K := by omega
      have ys0 := CK1.out.s0
      have ys1 := CK1.out.s1
      have ys2 := CK1.out.s2
      have ys3 := CK1.out.s3
      have ys4 := CK1.out.s4
      obtain ⟨vb1, hvb1⟩ := CK1.out.bc
      obtain ⟨fn, tmps, assign, body, hy, hR⟩ := HY.out wr k sj pj0 pj1 q qf T.length qc vb1 CK1.out.env.le CK1.out.env.rl CK1.out.env.rd hvb1 CK1.out.bf
      gi_wp2_with fail
      refine hR.mono ?_
      rintro e w2 hround
      have CK2 := Lib.hid (CK1.out.round hround)
      have HR1 := Lib.hid hround
      obtain rfl := hround.1
      clear hround hy hR ys0 ys1 ys2 ys3 ys4 hvb1
      have hkK : k + 1 ≤ stK vs nf := by rw [HK.out.2]; omega
      obtain ⟨LF, LT, LS, LG, LN⟩ := HLG.out
      obtain ⟨hPP, hsj, hpj0, hpj1⟩ := HA.out
      obtain ⟨i1, i2⟩ := ldR_ok HP0.out.1 HT0.out.2.2 HP0.out.2 LF.1 LF.2 LT.1 LT.2 LS.1 hn6 (gasE_z LG).1 (gasE_z LG).2.2.1 (by have := gasE_z LG; omega) k (by omega)
      have HPk : Hid (P.length = T.length ∧ LdOk P) := Lib.hid (by rw [hPP]; exact ⟨i1, i2⟩)
      have hj1 : (k : Int) + 1 ≤ ((2 ^ nf : Nat) : Int) := by have := HKP.out; omega
      obtain ⟨sn, hsn⟩ : ∃ x, Hid (mkS vs nf ((k : Int) + 1) = x) := ⟨_, Lib.hid rfl⟩
      obtain ⟨pn0, hpn0⟩ : ∃ x, Hid (mkLo vf vt vs nf ((k : Int) + 1) = x) := ⟨_, Lib.hid rfl⟩
      obtain ⟨pn1, hpn1⟩ : ∃ x, Hid (mkHi vf vt vs nf ((k : Int) + 1) = x) := ⟨_, Lib.hid rfl⟩
      have bs0 := mkS_bd (s := vs) (n := nf) (j := (k : Int)) LS.1 hn6 (by omega) (by omega)
      have bs1 := mkS_bd (s := vs) (n := nf) (j := (k : Int) + 1) LS.1 hn6 (by omega) hj1
      have bs2 : mkS vs nf k ≤ mkS vs nf ((k : Int) + 1) := mkS_mono (s := vs) (n := nf) (j := k) LS.1
      rw [hsj] at bs0 bs2
      rw [hsn.out] at bs1 bs2
      have sj0 : 0 ≤ sj := bs0.1
      have sj1 : sj ≤ 100000 := by omega
      have sn0 : 0 ≤ sn := bs1.1
      have sn1 : sn ≤ 100000 := by omega
      have sle : sj ≤ sn := bs2
      obtain ⟨ds, hds⟩ : ∃ x, Hid (sn - sj = x) := ⟨_, Lib.hid rfl⟩
      have ds0 : 0 ≤ ds := by have := hds.out; omega
      have ds1 : ds ≤ 1000000 := by have := hds.out; omega
      have hdsw : IntKind.i64.wrap (sn - sj) = ds := by rw [hds.out]; exact IntWalk.i64_in _ (by omega)
      obtain ⟨ar0, har0⟩ : ∃ x, Hid (min pj0 pn0 = x) := ⟨_, Lib.hid rfl⟩
      obtain ⟨ar1, har1⟩ : ∃ x, Hid (max pj1 pn1 = x) := ⟨_, Lib.hid rfl⟩
      have bar := ar_bd (f := vf) (t := vt) (s := vs) (n := nf) (j := k) LF.1 LF.2 LT.1 LT.2 LS.1 hn6 hkK
      have ea0 : arLo vf vt vs nf k = ar0 := by rw [← har0.out, ← hpj0, ← hpn0.out]; rfl
      have ea1 : arHi vf vt vs nf k = ar1 := by rw [← har1.out, ← hpj1, ← hpn1.out]; rfl
      rw [ea0, ea1] at bar
      obtain ⟨y0, hy0⟩ : ∃ x, Hid ((1000 - vo - vh) * (ar0 - 63) = x) := ⟨_, Lib.hid rfl⟩
      obtain ⟨y1, hy1⟩ : ∃ x, Hid ((1000 - vo - vh) * (ar1 - 63) = x) := ⟨_, Lib.hid rfl⟩
      obtain ⟨y2, hy2⟩ : ∃ x, Hid (vh * (ar0 - 63) = x) := ⟨_, Lib.hid rfl⟩
      obtain ⟨y3, hy3⟩ : ∃ x, Hid (vh * (ar1 - 63) = x) := ⟨_, Lib.hid rfl⟩
      have by0 := brz_bd (N := 1000 - vo - vh) (p := ar0) (by have := gasE_z LG; omega) (by have := gasE_z LG; omega) bar.1.1 bar.1.2
      have by1 := brz_bd (N := 1000 - vo - vh) (p := ar1) (by have := gasE_z LG; omega) (by have := gasE_z LG; omega) bar.2.1 bar.2.2
      have by2 := brz_bd (N := vh) (p := ar0) (by have := gasE_z LG; omega) (by have := gasE_z LG; omega) bar.1.1 bar.1.2
      have by3 := brz_bd (N := vh) (p := ar1) (by have := gasE_z LG; omega) (by have := gasE_z LG; omega) bar.2.1 bar.2.2
      rw [hy0.out] at by0
      rw [hy1.out] at by1
      rw [hy2.out] at by2
      rw [hy3.out] at by3
      have HBY := Lib.hid (And.intro by0 (And.intro by1 (And.intro by2 by3)))
      have HBA := Lib.hid bar
      have HLGG := Lib.hid LG
      have HA2 := Lib.hid (AtG.next HA.out hsn.out hpn0.out hpn1.out hds.out har0.out har1.out hy0.out hy1.out hy2.out hy3.out)
      clear by0 by1 by2 by3 bar ea0 ea1 bs0 bs1 bs2 i1 i2 hPP hsj hpj0 hpj1 LF LT LS LG LN HA hds
      have k0 := CK2.out.env.c0
      have k1 := CK2.out.env.c1
      have k2 := CK2.out.env.c2
      have k3 := CK2.out.env.c3
      have k4 := CK2.out.env.c4
      have k5 := CK2.out.env.c5
      have k6 := CK2.out.env.c6
      gi_wp2_with fail
      refine ⟨trivial, (callsIn_wide.2 (mark_y vf vt vs vo vh ((k : Int) + 1) T.length tcap (some ⟨tb, tq, none⟩) nf _ sn pn0 pn1 HLG (by omega) hj1 hsn hpn0 hpn1)).mono ?_⟩
      rintro e u1 ⟨rfl, hbu⟩
      have CA1 := Lib.hid (CK2.out.below hbu)
      clear k0 k1 k2 k3 k4 k5 k6 hbu CK2
      gi_upto_region 6 with (fail)
      obtain ⟨w4, hw4⟩ : ∃ V, u1.alloc (.cells #[.int .i64 ((k : Int) + 1), .int .i64 sn, .int .i64 pn0, .int .i64 pn1] 91) = V := ⟨_, rfl⟩
      rw [hw4]
      have CB1 := Lib.hid (CA1.out.below (V' := w4) (by rw [← hw4]; exact (Below.refl _ _).alloc (Nat.le_refl _) _))
      have m0 : w4.cell? ⟨u1.heap.size, 0, none⟩ = some (.int .i64 ((k : Int) + 1)) := by rw [← hw4]; simp [go_sem]
      have m1 : w4.cell? ⟨u1.heap.size, 1, none⟩ = some (.int .i64 sn) := by rw [← hw4]; simp [go_sem]
      have m2 : w4.cell? ⟨u1.heap.size, 2, none⟩ = some (.int .i64 pn0) := by rw [← hw4]; simp [go_sem]
      have m3 : w4.cell? ⟨u1.heap.size, 3, none⟩ = some (.int .i64 pn1) := by rw [← hw4]; simp [go_sem]
      have ml : u1.heap.size < w4.heap.size := by rw [← hw4]; simp
      have mN : N ≤ u1.heap.size := CA1.out.env.le
      have MM := Lib.hid (And.intro m0 (And.intro m1 (And.intro m2 m3)))
      clear hw4 CA1 m0 m1 m2 m3
      gi_cut [8, 9, 10, 11, 12, 13, 14, 15, 16, 50, 51, 52] from 9 (fun s8 s9 s10 s11 s12 s13 s14 s15 s16 s50 s51 s52 wx => s50 = u50 ∧ s51 = u51 ∧ s52 = u52 ∧ s9 = u9 ∧ s10 = u10 ∧ s11 = u11 ∧ s12 = u12 ∧ s13 = u13 ∧ s14 = .agg #[.int .i64 vf, .int .i64 vt, .int .i64 vs, .int .i64 vo, .int .i64 vh, .slice (some ⟨tb, tq, none⟩) T.length tcap, .int .i64 nf] ∧ s15 = .int .i64 K ∧ s16 = .int .i64 k ∧ R6 w4 y0 y1 y2 y3 s8 wx)
      case first =>
        refine wpIn_wide.2 ?_
        have hcl : cb < w4.heap.size := Nat.lt_of_lt_of_le CB1.out.env.lt.1 CB1.out.env.le
        have HS : ∀ w', Below w4.heap.size w4 w' → w'.cell? ⟨cb, 3, none⟩ = some (.int .i64 vo) ∧ w'.cell? ⟨cb, 4, none⟩ = some (.int .i64 vh) ∧ w'.cell? ⟨b5, 0, none⟩ = some (.int .i64 ((k : Int))) ∧ w'.cell? ⟨b5, 1, none⟩ = some (.int .i64 sj) ∧ w'.cell? ⟨b5, 2, none⟩ = some (.int .i64 pj0) ∧ w'.cell? ⟨b5, 3, none⟩ = some (.int .i64 pj1) ∧ w'.cell? ⟨u1.heap.size, 0, none⟩ = some (.int .i64 ((k : Int) + 1)) ∧ w'.cell? ⟨u1.heap.size, 1, none⟩ = some (.int .i64 sn) ∧ w'.cell? ⟨u1.heap.size, 2, none⟩ = some (.int .i64 pn0) ∧ w'.cell? ⟨u1.heap.size, 3, none⟩ = some (.int .i64 pn1) := fun w' hb => ⟨(hb.cell (p := ⟨cb, 3, none⟩) hcl).trans CB1.out.env.c3, (hb.cell (p := ⟨cb, 4, none⟩) hcl).trans CB1.out.env.c4, (hb.cell (p := ⟨b5, 0, none⟩) CB1.out.b5l).trans CB1.out.s0, (hb.cell (p := ⟨b5, 1, none⟩) CB1.out.b5l).trans CB1.out.s1, (hb.cell (p := ⟨b5, 2, none⟩) CB1.out.b5l).trans CB1.out.s2, (hb.cell (p := ⟨b5, 3, none⟩) CB1.out.b5l).trans CB1.out.s3, (hb.cell (p := ⟨u1.heap.size, 0, none⟩) ml).trans MM.out.1, (hb.cell (p := ⟨u1.heap.size, 1, none⟩) ml).trans MM.out.2.1, (hb.cell (p := ⟨u1.heap.size, 2, none⟩) ml).trans MM.out.2.2.1, (hb.cell (p := ⟨u1.heap.size, 3, none⟩) ml).trans MM.out.2.2.2⟩
        have HS' := Lib.hid HS
        clear HS hcl
        refine wp_region_held_drew (S := (fun w' => w'.cell? ⟨cb, 3, none⟩ = some (.int .i64 vo) ∧ w'.cell? ⟨cb, 4, none⟩ = some (.int .i64 vh) ∧ w'.cell? ⟨b5, 0, none⟩ = some (.int .i64 ((k : Int))) ∧ w'.cell? ⟨b5, 1, none⟩ = some (.int .i64 sj) ∧ w'.cell? ⟨b5, 2, none⟩ = some (.int .i64 pj0) ∧ w'.cell? ⟨b5, 3, none⟩ = some (.int .i64 pj1) ∧ w'.cell? ⟨u1.heap.size, 0, none⟩ = some (.int .i64 ((k : Int) + 1)) ∧ w'.cell? ⟨u1.heap.size, 1, none⟩ = some (.int .i64 sn) ∧ w'.cell? ⟨u1.heap.size, 2, none⟩ = some (.int .i64 pn0) ∧ w'.cell? ⟨u1.heap.size, 3, none⟩ = some (.int .i64 pn1))) (by kernel_rfl) (by exact HS'.out _ (Below.refl w4.heap.size w4).drew) (fun hHeld => ?_)
        refine wpAnyH_take (i := 0) (oi := ⟨some 27, _, _, _, _, _⟩) (v := ?_) rfl (by kernel_rfl) (by kernel_rfl) (by kernel_rfl) (fun _ _ _ h => h) (Or.inl ⟨by kernel_rfl, ?_⟩) (by assumption) ?_
        rotate_left
        · (intro w hSw; (try dsimp only at hSw); go_simp; all_goals with_reducible rfl)
        try simp only [Act.put, List.setIfInBounds_toArray, List.set_cons_zero, List.set_cons_succ]
        refine wpAnyH_take (i := 1) (oi := ⟨some 28, _, _, _, _, _⟩) (v := ?_) rfl (by kernel_rfl) (by kernel_rfl) (by kernel_rfl) (fun _ _ _ h => h) (Or.inl ⟨by kernel_rfl, ?_⟩) (by assumption) ?_
        rotate_left
        · (intro w hSw; (try dsimp only at hSw); go_simp; all_goals with_reducible rfl)
        try simp only [Act.put, List.setIfInBounds_toArray, List.set_cons_zero, List.set_cons_succ]
        refine wpAnyH_take (i := 2) (oi := ⟨some 29, _, _, _, _, _⟩) (v := ?_) rfl (by kernel_rfl) (by kernel_rfl) (by kernel_rfl) (fun _ _ _ h => h) (Or.inl ⟨by kernel_rfl, ?_⟩) (by assumption) ?_
        rotate_left
        · (intro w hSw; (try dsimp only at hSw); go_simp; all_goals with_reducible rfl)
        try simp only [Act.put, List.setIfInBounds_toArray, List.set_cons_zero, List.set_cons_succ]
        refine wpAnyH_take (i := 3) (oi := ⟨some 30, _, _, _, _, _⟩) (v := ?_) rfl (by kernel_rfl) (by kernel_rfl) (by kernel_rfl) (fun _ _ _ h => h) (Or.inl ⟨by kernel_rfl, ?_⟩) (by assumption) ?_
        rotate_left
        · (intro w hSw; (try dsimp only at hSw); go_simp; all_goals with_reducible rfl)
        try simp only [Act.put, List.setIfInBounds_toArray, List.set_cons_zero, List.set_cons_succ]
        refine wpAnyH_take (i := 4) (oi := ⟨some 31, _, _, _, _, _⟩) (v := ?_) rfl (by kernel_rfl) (by kernel_rfl) (by kernel_rfl) (fun _ _ _ h => h) (Or.inl ⟨by kernel_rfl, ?_⟩) (by assumption) ?_
        rotate_left
        · (intro w hSw; (try dsimp only at hSw); go_simp; all_goals with_reducible rfl)
        try simp only [Act.put, List.setIfInBounds_toArray, List.set_cons_zero, List.set_cons_succ]
        refine wpAnyH_take (i := 5) (oi := ⟨some 32, _, _, _, _, _⟩) (v := ?_) rfl (by kernel_rfl) (by kernel_rfl) (by kernel_rfl) (fun _ _ _ h => h) (Or.inl ⟨by kernel_rfl, ?_⟩) (by assumption) ?_
        rotate_left
        · (intro w hSw; (try dsimp only at hSw); go_simp; all_goals with_reducible rfl)
        try simp only [Act.put, List.setIfInBounds_toArray, List.set_cons_zero, List.set_cons_succ]
        refine wpAnyH_ready (rs := [6, 8]) (by kernel_rfl) (by simp) ?_
        refine AllReadyH.cons rfl (fun K hK => ?_) (AllReadyH.cons rfl (fun K hK => ?_) (AllReadyH.nil))
        · skip
          go_simp
          refine (pres_y k sj pj0 pj1 (k + 1) sn pn0 pn1 ar0 ar1 _ har0 har1).mono ?_
          rintro e v1 ⟨rfl, hb1⟩
          have z1 := hb1.size
          (try simp at z1)
          have hB1 : Below w4.heap.size w4 v1 := ((Below.refl w4.heap.size w4).drew).trans (hb1.mono ((Below.refl w4.heap.size w4).drew).size)
          clear hb1
          go_wp2_with fail
          refine hK.out _ _ (HS'.out _ (hB1)) (fun hHeld => ?_)
          clear hK K
          try simp only [Act.put, List.setIfInBounds_toArray, List.set_cons_zero, List.set_cons_succ]
          refine wpAnyH_ready (rs := [7, 8]) (by kernel_rfl) (by simp) ?_
          refine AllReadyH.cons rfl (fun K hK => ?_) (AllReadyH.cons rfl (fun K hK => ?_) (AllReadyH.nil))
          · skip
            go_simp
            refine (breath_y vo vh ar0 ar1 y0 y1 y2 y3 _ HLGG HBA.out.1 HBA.out.2 hy0 hy1 hy2 hy3).mono ?_
            rintro e v2 ⟨rfl, hb2⟩
            have z2 := hb2.size
            (try simp at z2)
            have hB2 : Below w4.heap.size w4 v2 := (hB1).trans (hb2.mono (hB1).size)
            clear hb2
            go_wp2_with fail
            refine hK.out _ _ (HS'.out _ (hB2)) (fun hHeld => ?_)
            clear hK K
            try simp only [Act.put, List.setIfInBounds_toArray, List.set_cons_zero, List.set_cons_succ]
            refine wpAnyH_ready (rs := [8]) (by kernel_rfl) (by simp) ?_
            refine AllReadyH.cons rfl (fun K hK => ?_) (AllReadyH.nil)
            go_simp
            go_wp2_with fail
            refine hK.out _ _ (HS'.out _ ((hB2).alloc (hB2).size _)) (fun hHeld => ?_)
            clear hK K
            try simp only [Act.put, List.setIfInBounds_toArray, List.set_cons_zero, List.set_cons_succ]
            have lt2a : v2.heap.size < (v2.alloc (.cells #[.int .i64 0, .int .i64 0, .int .i64 0, .int .i64 0] 74)).heap.size := by simp
            refine wpAnyH_ready (rs := [9]) (by kernel_rfl) (by simp) ?_
            refine AllReadyH.cons rfl (fun K hK => ?_) (AllReadyH.nil)
            go_simp
            go_wp2_with fail
            refine hK.out _ _ (HS'.out _ ((hB2).alloc (hB2).size _)) (fun hHeld => ?_)
            clear hK K
            try simp only [Act.put, List.setIfInBounds_toArray, List.set_cons_zero, List.set_cons_succ]
            refine wpAnyH_done (by kernel_rfl) ?_ _
            go_wp2_with fail
            gi_meet
            exact ⟨rfl, rfl, rfl, rfl, rfl, rfl, rfl, rfl, rfl, rfl, rfl, R6.new (hB2)⟩
          · skip
            go_simp
            go_wp2_with fail
            refine hK.out _ _ (HS'.out _ ((hB1).alloc (hB1).size _)) (fun hHeld => ?_)
            clear hK K
            try simp only [Act.put, List.setIfInBounds_toArray, List.set_cons_zero, List.set_cons_succ]
            have lt1a : v1.heap.size < (v1.alloc (.cells #[.int .i64 0, .int .i64 0, .int .i64 0, .int .i64 0] 74)).heap.size := by simp
            refine wpAnyH_ready (rs := [7]) (by kernel_rfl) (by simp) ?_
            refine AllReadyH.cons rfl (fun K hK => ?_) (AllReadyH.nil)
            go_simp
            refine (breath_y vo vh ar0 ar1 y0 y1 y2 y3 _ HLGG HBA.out.1 HBA.out.2 hy0 hy1 hy2 hy3).mono ?_
            rintro e v2 ⟨rfl, hb2⟩
            have z2 := hb2.size
            (try simp at z2)
            have has2 : (∀ i, i < 4 → ∃ v, v2.cell? ⟨v1.heap.size, i, none⟩ = some v) ∧ (∀ j, v2.frozen? ⟨v1.heap.size, j, none⟩ = false) := has4_below (w := (v1.alloc (.cells #[.int .i64 0, .int .i64 0, .int .i64 0, .int .i64 0] 74))) (new4_is v1 _ _ _ _ 74) hb2 lt1a
            have lt2 : v1.heap.size < v2.heap.size := Nat.lt_of_lt_of_le lt1a hb2.size
            have hB2 : Below w4.heap.size w4 v2 := ((hB1).alloc (hB1).size _).trans (hb2.mono ((hB1).alloc (hB1).size _).size)
            clear hb2
            go_wp2_with fail
            refine hK.out _ _ (HS'.out _ (hB2)) (fun hHeld => ?_)
            clear hK K
            try simp only [Act.put, List.setIfInBounds_toArray, List.set_cons_zero, List.set_cons_succ]
            have hab : w4.heap.size ≤ v1.heap.size := (hB1).size
            obtain ⟨he, hf⟩ := has2
            obtain ⟨ev0, e0⟩ := he 0 (by omega)
            obtain ⟨ev1, e1⟩ := he 1 (by omega)
            obtain ⟨ev2, e2⟩ := he 2 (by omega)
            obtain ⟨ev3, e3⟩ := he 3 (by omega)
            refine wpAnyH_ready (rs := [9]) (by kernel_rfl) (by simp) ?_
            refine AllReadyH.cons rfl (fun K hK => ?_) (AllReadyH.nil)
            go_simp
            go_wp2_with fail
            refine hK.out _ _ (HS'.out _ (set4_below (hB2) hab)) (fun hHeld => ?_)
            clear hK K
            try simp only [Act.put, List.setIfInBounds_toArray, List.set_cons_zero, List.set_cons_succ]
            refine wpAnyH_done (by kernel_rfl) ?_ _
            go_wp2_with fail
            gi_meet
            exact ⟨rfl, rfl, rfl, rfl, rfl, rfl, rfl, rfl, rfl, rfl, rfl, R6.of (hB2) hab lt2 ⟨he, hf⟩⟩
        · skip
          go_simp
          go_wp2_with fail
          refine hK.out _ _ (HS'.out _ (((Below.refl w4.heap.size w4).drew).alloc ((Below.refl w4.heap.size w4).drew).size _)) (fun hHeld => ?_)
          clear hK K
          try simp only [Act.put, List.setIfInBounds_toArray, List.set_cons_zero, List.set_cons_succ]
          have lt0a : w4.heap.size < (w4.drew.alloc (.cells #[.int .i64 0, .int .i64 0, .int .i64 0, .int .i64 0] 74)).heap.size := by simp
          refine wpAnyH_ready (rs := [6]) (by kernel_rfl) (by simp) ?_
          refine AllReadyH.cons rfl (fun K hK => ?_) (AllReadyH.nil)
          go_simp
          refine (pres_y k sj pj0 pj1 (k + 1) sn pn0 pn1 ar0 ar1 _ har0 har1).mono ?_
          rintro e v1 ⟨rfl, hb1⟩
          have z1 := hb1.size
          (try simp at z1)
          have has1 : (∀ i, i < 4 → ∃ v, v1.cell? ⟨w4.heap.size, i, none⟩ = some v) ∧ (∀ j, v1.frozen? ⟨w4.heap.size, j, none⟩ = false) := has4_below (w := (w4.drew.alloc (.cells #[.int .i64 0, .int .i64 0, .int .i64 0, .int .i64 0] 74))) (new4_is w4.drew _ _ _ _ 74) hb1 lt0a
          have lt1 : w4.heap.size < v1.heap.size := Nat.lt_of_lt_of_le lt0a hb1.size
          have hB1 : Below w4.heap.size w4 v1 := (((Below.refl w4.heap.size w4).drew).alloc ((Below.refl w4.heap.size w4).drew).size _).trans (hb1.mono (((Below.refl w4.heap.size w4).drew).alloc ((Below.refl w4.heap.size w4).drew).size _).size)
          clear hb1
          go_wp2_with fail
          refine hK.out _ _ (HS'.out _ (hB1)) (fun hHeld => ?_)
          clear hK K
          try simp only [Act.put, List.setIfInBounds_toArray, List.set_cons_zero, List.set_cons_succ]
          refine wpAnyH_ready (rs := [7]) (by kernel_rfl) (by simp) ?_
          refine AllReadyH.cons rfl (fun K hK => ?_) (AllReadyH.nil)
          go_simp
          refine (breath_y vo vh ar0 ar1 y0 y1 y2 y3 _ HLGG HBA.out.1 HBA.out.2 hy0 hy1 hy2 hy3).mono ?_
          rintro e v2 ⟨rfl, hb2⟩
          have z2 := hb2.size
          (try simp at z2)
          have has2 : (∀ i, i < 4 → ∃ v, v2.cell? ⟨w4.heap.size, i, none⟩ = some v) ∧ (∀ j, v2.frozen? ⟨w4.heap.size, j, none⟩ = false) := has4_below (w := v1) has1 hb2 lt1
          have lt2 : w4.heap.size < v2.heap.size := Nat.lt_of_lt_of_le lt1 hb2.size
          have hB2 : Below w4.heap.size w4 v2 := (hB1).trans (hb2.mono (hB1).size)
          clear hb2
          go_wp2_with fail
          refine hK.out _ _ (HS'.out _ (hB2)) (fun hHeld => ?_)
          clear hK K
          try simp only [Act.put, List.setIfInBounds_toArray, List.set_cons_zero, List.set_cons_succ]
          have hab : w4.heap.size ≤ w4.heap.size := ((Below.refl w4.heap.size w4).drew).size
          obtain ⟨he, hf⟩ := has2
          obtain ⟨ev0, e0⟩ := he 0 (by omega)
          obtain ⟨ev1, e1⟩ := he 1 (by omega)
          obtain ⟨ev2, e2⟩ := he 2 (by omega)
          obtain ⟨ev3, e3⟩ := he 3 (by omega)
          refine wpAnyH_ready (rs := [9]) (by kernel_rfl) (by simp) ?_
          refine AllReadyH.cons rfl (fun K hK => ?_) (AllReadyH.nil)
          go_simp
          go_wp2_with fail
          refine hK.out _ _ (HS'.out _ (set4_below (hB2) hab)) (fun hHeld => ?_)
          clear hK K
          try simp only [Act.put, List.setIfInBounds_toArray, List.set_cons_zero, List.set_cons_succ]
          refine wpAnyH_done (by kernel_rfl) ?_ _
          go_wp2_with fail
          gi_meet
          exact ⟨rfl, rfl, rfl, rfl, rfl, rfl, rfl, rfl, rfl, rfl, rfl, R6.of (hB2) hab lt2 ⟨he, hf⟩⟩
      case rest =>
      obtain ⟨rfl, rfl, rfl, rfl, rfl, rfl, rfl, rfl, rfl, rfl, rfl, b8, rfl, hb8n, hb8l, t0, t1, t2, t3, hB5⟩ := hcut
      have CC1 := Lib.hid (CB1.out.below hB5)
      obtain ⟨w5, hw5⟩ : ∃ V, V = wc := ⟨_, rfl⟩
      rw [← hw5] at t0 t1 t2 t3 hB5 CC1 hb8l
      rw [← hw5]
      have m0 : w5.cell? ⟨u1.heap.size, 0, none⟩ = some (.int .i64 ((k : Int) + 1)) := (hB5.cell (p := ⟨u1.heap.size, 0, none⟩) ml).trans MM.out.1
      have m1 : w5.cell? ⟨u1.heap.size, 1, none⟩ = some (.int .i64 sn) := (hB5.cell (p := ⟨u1.heap.size, 1, none⟩) ml).trans MM.out.2.1
      have m2 : w5.cell? ⟨u1.heap.size, 2, none⟩ = some (.int .i64 pn0) := (hB5.cell (p := ⟨u1.heap.size, 2, none⟩) ml).trans MM.out.2.2.1
      have m3 : w5.cell? ⟨u1.heap.size, 3, none⟩ = some (.int .i64 pn1) := (hB5.cell (p := ⟨u1.heap.size, 3, none⟩) ml).trans MM.out.2.2.2
      have ml5 : u1.heap.size < w5.heap.size := Nat.lt_of_lt_of_le ml hB5.size
      have b8N : N ≤ b8 := by have := CB1.out.env.le; omega
      clear hw5 MM ml hB5 CB1 hb8n
      gi_upto_region 7 with (fail)
      refine wpIn_wide.2 ?_
      obtain ⟨hcb', hlx', hfb', hb4', hb1', hb3', hbm', hbB', htb', hrb', hq0', hl', hD'⟩ := CC1.out.env.lt
      obtain ⟨kcb, klx, kfb, kb4, kb1, kb3, kbB, ktb, krb, kq0, kl, kD⟩ := CC1.out.env.nm
      have hN5 := CC1.out.env.le
      have h5n := CC1.out.b5n
      have h5l := CC1.out.b5l
      have hqn := CC1.out.qn
      have hql := CC1.out.ql
      have nb5 : b5 ≠ bm := by omega
      have nb7 : u1.heap.size ≠ bm := by omega
      have nb8 : b8 ≠ bm := by omega
      have nq : q ≠ bm := by omega
      have lfb : fb < w5.heap.size := by omega
      have l4 : b4 < w5.heap.size := by omega
      have ltb : tb < w5.heap.size := by omega
      have lrb : rb < w5.heap.size := by omega
      have lbm : bm < w5.heap.size := by omega
      have HBM := Lib.hid hbm'
      clear hcb' hlx' hfb' hb4' hb1' hb3' hbm' hbB' htb' hrb' hq0' hl' hD' kcb klx kb4 kb1 kb3 kbB ktb krb kq0 kl kD
      have HT : ∀ w', BelowX bm bm w5.heap.size w5 w' → w'.cell? ⟨u1.heap.size, 0, none⟩ = some (.int .i64 ((k : Int) + 1)) ∧ w'.cell? ⟨u1.heap.size, 1, none⟩ = some (.int .i64 sn) ∧ w'.cell? ⟨u1.heap.size, 2, none⟩ = some (.int .i64 pn0) ∧ w'.cell? ⟨u1.heap.size, 3, none⟩ = some (.int .i64 pn1) ∧ w'.cell? ⟨b5, 0, none⟩ = some (.int .i64 ((k : Int))) ∧ w'.cell? ⟨b5, 1, none⟩ = some (.int .i64 sj) ∧ w'.cell? ⟨b5, 2, none⟩ = some (.int .i64 pj0) ∧ w'.cell? ⟨b5, 3, none⟩ = some (.int .i64 pj1) ∧ w'.cell? ⟨b5, 4, none⟩ = some (.slice (some ⟨q, qf, none⟩) T.length qc) ∧ w'.cell? ⟨b8, 0, none⟩ = some (.int .i64 y0) ∧ w'.cell? ⟨b8, 1, none⟩ = some (.int .i64 y1) ∧ w'.cell? ⟨b8, 2, none⟩ = some (.int .i64 y2) ∧ w'.cell? ⟨b8, 3, none⟩ = some (.int .i64 y3) ∧ w'.cell? ⟨fb, 0, none⟩ = some (.func (.func 78) #[] #[.pointer (some ⟨b4, 0, none⟩), .pointer (some ⟨b1, 0, none⟩), .pointer (some ⟨b3, 0, none⟩)]) := fun w' hb => ⟨(hb.cell ml5 nb7 nb7).trans m0, (hb.cell ml5 nb7 nb7).trans m1, (hb.cell ml5 nb7 nb7).trans m2, (hb.cell ml5 nb7 nb7).trans m3, (hb.cell h5l nb5 nb5).trans CC1.out.s0, (hb.cell h5l nb5 nb5).trans CC1.out.s1, (hb.cell h5l nb5 nb5).trans CC1.out.s2, (hb.cell h5l nb5 nb5).trans CC1.out.s3, (hb.cell h5l nb5 nb5).trans CC1.out.s4, (hb.cell hb8l nb8 nb8).trans t0, (hb.cell hb8l nb8 nb8).trans t1, (hb.cell hb8l nb8 nb8).trans t2, (hb.cell hb8l nb8 nb8).trans t3, (hb.cell lfb kfb kfb).trans CC1.out.env.fc⟩
      have HT' := Lib.hid HT
      clear HT m0 m1 m2 m3 t0 t1 t2 t3
      have hx0 : BelowX bm bm w5.heap.size w5 w5.drew := BelowX.of (Below.refl _ _).drew (Nat.le_refl _)
      refine wp_region_Z (S := (fun w' => w'.cell? ⟨u1.heap.size, 0, none⟩ = some (.int .i64 ((k : Int) + 1)) ∧ w'.cell? ⟨u1.heap.size, 1, none⟩ = some (.int .i64 sn) ∧ w'.cell? ⟨u1.heap.size, 2, none⟩ = some (.int .i64 pn0) ∧ w'.cell? ⟨u1.heap.size, 3, none⟩ = some (.int .i64 pn1) ∧ w'.cell? ⟨b5, 0, none⟩ = some (.int .i64 ((k : Int))) ∧ w'.cell? ⟨b5, 1, none⟩ = some (.int .i64 sj) ∧ w'.cell? ⟨b5, 2, none⟩ = some (.int .i64 pj0) ∧ w'.cell? ⟨b5, 3, none⟩ = some (.int .i64 pj1) ∧ w'.cell? ⟨b5, 4, none⟩ = some (.slice (some ⟨q, qf, none⟩) T.length qc) ∧ w'.cell? ⟨b8, 0, none⟩ = some (.int .i64 y0) ∧ w'.cell? ⟨b8, 1, none⟩ = some (.int .i64 y1) ∧ w'.cell? ⟨b8, 2, none⟩ = some (.int .i64 y2) ∧ w'.cell? ⟨b8, 3, none⟩ = some (.int .i64 y3) ∧ w'.cell? ⟨fb, 0, none⟩ = some (.func (.func 78) #[] #[.pointer (some ⟨b4, 0, none⟩), .pointer (some ⟨b1, 0, none⟩), .pointer (some ⟨b3, 0, none⟩)]))) 14 (by kernel_rfl) (by kernel_rfl) (by kernel_rfl) (by exact HT'.out _ hx0) (fun hHeld => ?_)
      refine wpAnyZ_take (i := 0) (oi := ⟨some 35, _, _, _, _, _⟩) (v := ?_) (by kernel_rfl) (by kernel_rfl) rfl rfl (by kernel_rfl) (by kernel_rfl) (by kernel_rfl) (fun _ _ _ h => h) (Or.inl ⟨by kernel_rfl, ?_⟩) (by assumption) ?_
      rotate_left
      · (intro w hSw; (try dsimp only at hSw); go_simp; all_goals with_reducible rfl)
      try simp only [Act.put, List.setIfInBounds_toArray, List.set_cons_zero, List.set_cons_succ]
      refine wpAnyZ_take (i := 1) (oi := ⟨some 36, _, _, _, _, _⟩) (v := ?_) (by kernel_rfl) (by kernel_rfl) rfl rfl (by kernel_rfl) (by kernel_rfl) (by kernel_rfl) (fun _ _ _ h => h) (Or.inl ⟨by kernel_rfl, ?_⟩) (by assumption) ?_
      rotate_left
      · (intro w hSw; (try dsimp only at hSw); go_simp; all_goals with_reducible rfl)
      try simp only [Act.put, List.setIfInBounds_toArray, List.set_cons_zero, List.set_cons_succ]
      refine wpAnyZ_take (i := 2) (oi := ⟨some 37, _, _, _, _, _⟩) (v := ?_) (by kernel_rfl) (by kernel_rfl) rfl rfl (by kernel_rfl) (by kernel_rfl) (by kernel_rfl) (fun _ _ _ h => h) (Or.inl ⟨by kernel_rfl, ?_⟩) (by assumption) ?_
      rotate_left
      · (intro w hSw; (try dsimp only at hSw); go_simp; all_goals with_reducible rfl)
      try simp only [Act.put, List.setIfInBounds_toArray, List.set_cons_zero, List.set_cons_succ]
      refine wpAnyZ_take (i := 3) (oi := ⟨some 38, _, _, _, _, _⟩) (v := ?_) (by kernel_rfl) (by kernel_rfl) rfl rfl (by kernel_rfl) (by kernel_rfl) (by kernel_rfl) (fun _ _ _ h => h) (Or.inl ⟨by kernel_rfl, ?_⟩) (by assumption) ?_
      rotate_left
      · (intro w hSw; (try dsimp only at hSw); go_simp; all_goals with_reducible rfl)
      try simp only [Act.put, List.setIfInBounds_toArray, List.set_cons_zero, List.set_cons_succ]
      refine wpAnyZ_take (i := 4) (oi := ⟨some 39, _, _, _, _, _⟩) (v := ?_) (by kernel_rfl) (by kernel_rfl) rfl rfl (by kernel_rfl) (by kernel_rfl) (by kernel_rfl) (fun _ _ _ h => h) (Or.inl ⟨by kernel_rfl, ?_⟩) (by assumption) ?_
      rotate_left
      · (intro w hSw; (try dsimp only at hSw); go_simp; all_goals with_reducible rfl)
      try simp only [Act.put, List.setIfInBounds_toArray, List.set_cons_zero, List.set_cons_succ]
      refine wpAnyZ_take (i := 5) (oi := ⟨some 40, _, _, _, _, _⟩) (v := ?_) (by kernel_rfl) (by kernel_rfl) rfl rfl (by kernel_rfl) (by kernel_rfl) (by kernel_rfl) (fun _ _ _ h => h) (Or.inl ⟨by kernel_rfl, ?_⟩) (by assumption) ?_
      rotate_left
      · (intro w hSw; (try dsimp only at hSw); go_simp; all_goals with_reducible rfl)
      try simp only [Act.put, List.setIfInBounds_toArray, List.set_cons_zero, List.set_cons_succ]
      refine wpAnyZ_take (i := 6) (oi := ⟨some 41, _, _, _, _, _⟩) (v := ?_) (by kernel_rfl) (by kernel_rfl) rfl rfl (by kernel_rfl) (by kernel_rfl) (by kernel_rfl) (fun _ _ _ h => h) (Or.inl ⟨by kernel_rfl, ?_⟩) (by assumption) ?_
      rotate_left
      · (intro w hSw; (try dsimp only at hSw); go_simp; all_goals with_reducible rfl)
      try simp only [Act.put, List.setIfInBounds_toArray, List.set_cons_zero, List.set_cons_succ]
      refine wpAnyZ_take (i := 7) (oi := ⟨some 42, _, _, _, _, _⟩) (v := ?_) (by kernel_rfl) (by kernel_rfl) rfl rfl (by kernel_rfl) (by kernel_rfl) (by kernel_rfl) (fun _ _ _ h => h) (Or.inl ⟨by kernel_rfl, ?_⟩) (by assumption) ?_
      rotate_left
      · (intro w hSw; (try dsimp only at hSw); go_simp; all_goals with_reducible rfl)
      try simp only [Act.put, List.setIfInBounds_toArray, List.set_cons_zero, List.set_cons_succ]
      refine wpAnyZ_take (i := 8) (oi := ⟨some 43, _, _, _, _, _⟩) (v := ?_) (by kernel_rfl) (by kernel_rfl) rfl rfl (by kernel_rfl) (by kernel_rfl) (by kernel_rfl) (fun _ _ _ h => h) (Or.inl ⟨by kernel_rfl, ?_⟩) (by assumption) ?_
      rotate_left
      · (intro w hSw; (try dsimp only at hSw); go_simp; all_goals with_reducible rfl)
      try simp only [Act.put, List.setIfInBounds_toArray, List.set_cons_zero, List.set_cons_succ]
      refine wpAnyZ_take (i := 9) (oi := ⟨some 44, _, _, _, _, _⟩) (v := ?_) (by kernel_rfl) (by kernel_rfl) rfl rfl (by kernel_rfl) (by kernel_rfl) (by kernel_rfl) (fun _ _ _ h => h) (Or.inl ⟨by kernel_rfl, ?_⟩) (by assumption) ?_
      rotate_left
      · (intro w hSw; (try dsimp only at hSw); go_simp; all_goals with_reducible rfl)
      try simp only [Act.put, List.setIfInBounds_toArray, List.set_cons_zero, List.set_cons_succ]
      refine wpAnyZ_take (i := 10) (oi := ⟨some 45, _, _, _, _, _⟩) (v := ?_) (by kernel_rfl) (by kernel_rfl) rfl rfl (by kernel_rfl) (by kernel_rfl) (by kernel_rfl) (fun _ _ _ h => h) (Or.inl ⟨by kernel_rfl, ?_⟩) (by assumption) ?_
      rotate_left
      · (intro w hSw; (try dsimp only at hSw); go_simp; all_goals with_reducible rfl)
      try simp only [Act.put, List.setIfInBounds_toArray, List.set_cons_zero, List.set_cons_succ]
      refine wpAnyZ_call (q := 11) (by kernel_rfl) rfl rfl (fun K' hK => ?_)
      go_simp
      refine (knows_any T ds b4 b1 b3 bm tb tq tcap (8 + 2 * nf) rb rcap N b5 es mc w5.drew HT0 ds0 ds1 (by omega) ltb lrb hrc.out.1 hrc.out.2 (CC1.out.env.keep (BelowX.of (Below.refl w5.heap.size w5).drew CC1.out.env.le)).rt (CC1.out.env.keep (BelowX.of (Below.refl w5.heap.size w5).drew CC1.out.env.le)).tt hN5 h5l HBM.out (CC1.out.env.keep (BelowX.of (Below.refl w5.heap.size w5).drew CC1.out.env.le)).m4 CC1.out.mh (CC1.out.dk.blk (Nat.le_refl _) (fun _ _ _ _ => rfl)) (CC1.out.env.keep (BelowX.of (Below.refl w5.heap.size w5).drew CC1.out.env.le)).m1 (CC1.out.env.keep (BelowX.of (Below.refl w5.heap.size w5).drew CC1.out.env.le)).m3).mono ?_
      rintro e v1 ⟨bb, es1, mc1, rfl, ⟨bbN, b5b, nbb, hbb3⟩, hLb, hx1', hm1, hk1⟩
      have hx1 : BelowX bm bm w5.heap.size w5 v1 := hx0.trans hx1'
      have rr := CC1.out.r.blk (hx1.block q hql nq nq)
      have hqv : q < v1.heap.size := Nat.lt_of_lt_of_le hql hx1.size
      have DD := Lib.hid (And.intro hLb (And.intro rr (And.intro hm1 hk1)))
      clear hLb rr hm1 hk1 hx1'
      go_wp2_with fail
      refine hK.out _ _ (HT'.out _ hx1) (fun hHeld => ?_)
      clear hK K'
      try simp only [Act.put, List.setIfInBounds_toArray, List.set_cons_zero, List.set_cons_succ]
      refine wpAnyZ_call (q := 12) (by kernel_rfl) rfl rfl (fun K' hK => ?_)
      go_simp
      refine (behind_y T P ds y0 y1 y2 y3 (8 + 2 * nf) q qf qc bb v1 HT0 HPk HBY.out.1 HBY.out.2.1 HBY.out.2.2.1 HBY.out.2.2.2 hqv DD.out.2.1 hbb3 DD.out.1).mono ?_
      rintro e v2 ⟨bn, rfl, hn1, hn2, hLn, hbv2⟩
      have hx2 : BelowX bm bm w5.heap.size w5 v2 := hx1.trans (BelowX.of hbv2 hx1.size)
      have CD1 := Lib.hid (CC1.out.next (j' := (k : Int) + 1) (s' := sn) (p0' := pn0) (p1' := pn1) (qc' := T.length) hx1 DD.out.2.2.1 hbv2 hn1 hn2 hLn DD.out.2.2.2)
      have s0 := (hx2.cell (i := 0) h5l nb5 nb5).trans CC1.out.s0
      have s1 := (hx2.cell (i := 1) h5l nb5 nb5).trans CC1.out.s1
      have s2 := (hx2.cell (i := 2) h5l nb5 nb5).trans CC1.out.s2
      have s3 := (hx2.cell (i := 3) h5l nb5 nb5).trans CC1.out.s3
      have s4 := (hx2.cell (i := 4) h5l nb5 nb5).trans CC1.out.s4
      have sf : ∀ j, v2.frozen? ⟨b5, j, none⟩ = false := fun j => (hx2.frozen h5l nb5 nb5).trans (CC1.out.sf j)
      clear hLn hn1 hn2 hbv2
      go_wp2_with fail
      refine hK.out _ _ (HT'.out _ hx2) (fun hHeld => ?_)
      clear hK K'
      try simp only [Act.put, List.setIfInBounds_toArray, List.set_cons_zero, List.set_cons_succ]
      refine wpAnyZ_take (i := 13) (oi := ⟨some 48, _, _, _, _, _⟩) (v := ?_) (by kernel_rfl) (by kernel_rfl) rfl rfl (by kernel_rfl) (by kernel_rfl) (by kernel_rfl) (fun _ _ _ h => h) (Or.inl ⟨by kernel_rfl, ?_⟩) (by assumption) ?_
      rotate_left
      · (intro w hSw; (try dsimp only at hSw); go_simp; all_goals with_reducible rfl)
      try simp only [Act.put, List.setIfInBounds_toArray, List.set_cons_zero, List.set_cons_succ]
      refine wpAnyZ_last (by kernel_rfl) rfl (fun K' hK => ?_)
      go_simp
      go_wp2_with fail
      refine hK.out _ _ ?_
      clear hK K'
      try simp only [Act.put, List.setIfInBounds_toArray, List.set_cons_zero, List.set_cons_succ]
      obtain ⟨x1, hx19⟩ : ∃ V, set5 v2 b5 (.int .i64 ((k : Int) + 1)) (.int .i64 sn) (.int .i64 pn0) (.int .i64 pn1) (.slice (some ⟨bn, 0, none⟩) T.length T.length) = V := ⟨_, rfl⟩
      rw [hx19] at CD1
      unfold set5 at hx19
      rw [hx19]
      clear hx19 s0 s1 s2 s3 s4 sf hHeld hx2 hx1 hx0 HT' DD nb5 nb7 nb8 nq lfb l4 ltb lrb lbm h5n h5l hqn hql hN5 CC1 kfb hqv hbb3 hb8l b8N ml5 mN nbb
      gi_wp2
      go_roundw
      case rel => exact ⟨k + 1, (List.range T.length).map (stepR ds (8 + 2 * nf) T P y0 y1 y2 y3), sn, pn0, pn1, es1, mc1, bn, 0, T.length, by go_num, by omega, CD1, HA2⟩
      case measure => (simp [intOf]) <;> omega
    · have hkl2 : ¬ (k : Int) < K := by omega
      have HKK := Lib.hid (show k = K by omega)
      clear hkl hk
      have ys0 := CK1.out.s0
      have ys1 := CK1.out.s1
      have ys2 := CK1.out.s2
      have ys3 := CK1.out.s3
      have ys4 := CK1.out.s4
      obtain ⟨vb3, hvb3⟩ := CK1.out.bc
      obtain ⟨fn, tmps, assign, body, hy, hR⟩ := HY.out wr k sj pj0 pj1 q qf T.length qc vb3 CK1.out.env.le CK1.out.env.rl CK1.out.env.rd hvb3 CK1.out.bf
      gi_wp2_with fail
      refine hR.mono ?_
      rintro e w2 hround
      have CE3 := Lib.hid (CK1.out.round hround)
      have HR3 := Lib.hid hround
      obtain rfl := hround.1
      clear hround hy hR ys0 ys1 ys2 ys3 ys4 hvb3
      gi_wp2_with fail
      go_end0
      have hP := HA.out.1
      rw [HKK.out] at hP
      exact ⟨⟨_, rfl⟩, q, qf, qc, HR3.out.2.1, CE3.out.bf, CE3.out.qn, CE3.out.ql, by rw [← hP]; exact CE3.out.r, CE3.out.bx⟩
end Go.Proofs.Ytfaodlcfjhnhbaa
