import Derived.Test.YtchfhhmmjioajaaZFTLawFoll1
import Derived.Outline
namespace Go.Proofs.Ytchfhhmmjioajaa
open Go.ChangeShapes Go.WideShapes Go.ChangeAt Go.RowKit
set_option linter.unusedVariables false
set_option linter.unusedSimpArgs false
attribute [local go_sem ↓] Go.wp_at_zero Go.wp_at_succ
/-- A row of slices, the k-th holding F (k + 1). -/
def RowAt (n m : Nat) (V : World) (A : Option Addr) (F : Nat → List Ld) : Prop := ∀ k, k < m → ∃ g q qf qc, A = some ⟨g, 0, none⟩ ∧ g < V.heap.size ∧ V.cell? ⟨g, k, none⟩ = some (.slice (some ⟨q, qf, none⟩) n qc) ∧ q < V.heap.size ∧ LdAt V q qf (F (k + 1))
theorem RowAt.below {n m : Nat} {V V' : World} {A : Option Addr} {F : Nat → List Ld} (hr : RowAt n m V A F) (hb : Below V.heap.size V V') : RowAt n m V' A F := fun k hk => by
  obtain ⟨g, q, qf, qc, h1, h2, h3, h4, h5⟩ := hr k hk
  exact ⟨g, q, qf, qc, h1, Nat.lt_of_lt_of_le h2 hb.size, (hb.cell (p := ⟨g, k, none⟩) h2).trans h3, Nat.lt_of_lt_of_le h4 hb.size, h5.below hb h4⟩
set_option maxRecDepth 100000 in
set_option maxHeartbeats 8000000 in
theorem tissueFollows_good (T : List Cm) (L : List Ld) (A B : Option Addr) (cap cap' : Nat) (fr tz se o hh fi : Int) (G : List Tl) (C : Option Addr) (capg : Nat) (w : World) (hl : T.length ≤ 9223372036854775807) (hl' : L.length ≤ 9223372036854775807) (hA : A = none → cap = 0) (hB : B = none → cap' = 0) (hT : SlCm w A T) (hL : SlLd w B L) (hlG : G.length ≤ 9223372036854775807) (hC : C = none → capg = 0) (hG : SlTl w C G) (hli : (fewB T.length && decide (L.length ≤ 19)) = true) (hlen : G.length ≤ 5) (hz : firE [loadsE T L, clE G, rngE fi 0 6] = 0) :
    Calls Try.prog 8 #[.agg #[.slice A T.length cap, .slice B L.length cap', .int .i64 fr, .int .i64 tz, .int .i64 se, .int .i64 o, .int .i64 hh, .int .i64 fi], .slice C G.length capg] w fun e w' => e = .returned (.bool true) ∧ Below w.heap.size w w' := by
  have HT := Lib.hid hT
  have HL := Lib.hid hL
  have HNA := Lib.hid hA
  have HNB := Lib.hid hB
  have HG := Lib.hid hG
  have HNC := Lib.hid hC
  clear hT hL hA hB hG hC
  have HLI := Lib.hid (fun w => light_is T L A B cap cap' fr tz se o hh fi true w hl' (Lib.hid hli))
  have hlt : T.length ≤ 18 := few_le (by cases h0 : fewB T.length with | true => rfl | false => rw [h0] at hli; simp at hli)
  have hll : L.length ≤ 19 := by cases h0 : fewB T.length with | true => rw [h0] at hli; simpa using hli | false => rw [h0] at hli; simp at hli
  clear hli
  obtain ⟨i0, hi, hz0, hz1, hz2⟩ := info_parts infoTl
  have HIf := Lib.hid hi
  have HZ0 := Lib.hid hz0
  have HZ1 := Lib.hid hz1
  have HZ2 := Lib.hid hz2
  have HTC := Lib.hid (And.intro (tlc_len G) (tlc_one G))
  clear hi hz0 hz1 hz2
  have hgd : (¬ (5 : Int) < G.length ∧ ¬ (202 : Int) < G.length) ∨ ((5 : Int) < G.length ∧ ¬ (G.length : Int) ≤ 200 ∧ ¬ (202 : Int) < G.length) := by omega
  have HD := Lib.hid hgd
  clear hgd
  obtain ⟨a0, b0, v0⟩ := firE3_z hz
  have hq := Lib.hid a0
  have hg := Lib.hid b0
  obtain ⟨fi0, fi1⟩ := rng0 v0
  obtain ⟨n, rfl⟩ := Int.eq_ofNat_of_zero_le fi0
  have hn6 : n ≤ 6 := by omega
  have HIF := Lib.hid (fun w => isFine_is (n : Int) true w (Lib.hid (inB_true fi0 fi1)))
  have hgz : fstE tlE G = 0 := by
    unfold clE at b0
    rw [if_neg (by omega)] at b0
    exact b0
  have HGE : Hid (∀ k, (hk : k < G.length) → tlE G[k] = 0) := fstE_all hgz
  have HFIT : Hid (∀ k, k ≤ G.length → loadsE T (fol T n L G k) = 0) := fol_fit a0 hgz hn6
  have hF := Lib.hid (fit_of a0)
  have g200 : ¬ (200 : Int) < G.length := by omega
  clear a0 b0 v0 hz fi0 fi1 hgz
  go_enter Try.func8, Try.ntmps8
  go_wp2_with fail
  refine (tawake_any _).mono ?_
  rintro e w1 ⟨rfl, hb1⟩
  have za := hb1.size
  try simp at za
  have a0 : w1.cell? ⟨w.heap.size, 0, none⟩ = some (.slice A T.length cap) := (by rw [(bcell hb1).1 _ _ (by first | (simp; done) | (simp; omega) | omega)]; simp [go_sem, World.cell?_alloc_past, *])
  have a1 : w1.cell? ⟨w.heap.size, 1, none⟩ = some (.slice B L.length cap') := (by rw [(bcell hb1).1 _ _ (by first | (simp; done) | (simp; omega) | omega)]; simp [go_sem, World.cell?_alloc_past, *])
  have a2 : w1.cell? ⟨w.heap.size, 2, none⟩ = some (.int .i64 fr) := (by rw [(bcell hb1).1 _ _ (by first | (simp; done) | (simp; omega) | omega)]; simp [go_sem, World.cell?_alloc_past, *])
  have a3 : w1.cell? ⟨w.heap.size, 3, none⟩ = some (.int .i64 tz) := (by rw [(bcell hb1).1 _ _ (by first | (simp; done) | (simp; omega) | omega)]; simp [go_sem, World.cell?_alloc_past, *])
  have a4 : w1.cell? ⟨w.heap.size, 4, none⟩ = some (.int .i64 se) := (by rw [(bcell hb1).1 _ _ (by first | (simp; done) | (simp; omega) | omega)]; simp [go_sem, World.cell?_alloc_past, *])
  have a5 : w1.cell? ⟨w.heap.size, 5, none⟩ = some (.int .i64 o) := (by rw [(bcell hb1).1 _ _ (by first | (simp; done) | (simp; omega) | omega)]; simp [go_sem, World.cell?_alloc_past, *])
  have a6 : w1.cell? ⟨w.heap.size, 6, none⟩ = some (.int .i64 hh) := (by rw [(bcell hb1).1 _ _ (by first | (simp; done) | (simp; omega) | omega)]; simp [go_sem, World.cell?_alloc_past, *])
  have a7 : w1.cell? ⟨w.heap.size, 7, none⟩ = some (.int .i64 (n : Int)) := (by rw [(bcell hb1).1 _ _ (by first | (simp; done) | (simp; omega) | omega)]; simp [go_sem, World.cell?_alloc_past, *])
  have aB : Below w.heap.size w w1 := (by (repeat (first | (with_reducible refine Below.drew ?_) | (with_reducible refine below_drewN ?_ _) | (with_reducible refine Below.alloc ?_ (by first | omega | (simp; done) | (simp; omega) | (simp at *; omega)) _) | (with_reducible refine Below.setCell ?_ (by first | omega | (simp; done) | (simp; omega) | (simp at *; omega)) _) | (with_reducible exact Below.refl _ _) | (with_reducible assumption) | (with_reducible refine Below.trans ?_ (Below.mono (by assumption) (by first | omega | (simp; done) | (simp; omega) | (simp at *; omega)))))))
  have ao0 : w.heap.size < w1.heap.size := by omega
  have an0 : w1.heap.size ≠ w.heap.size := by omega
  clear hb1
  go_upto_region 3 with (fail)
  go_cut [32] from 13 (fun s32 wx => s32 = .bool false ∧ Below w1.heap.size w1 wx)
  case first =>
    rcases HD.out with ⟨k1, k2⟩ | ⟨k1, k2, k3⟩
    · go_wp2_with fail
      refine (HLI.out _).mono ?_
      rintro e w2 ⟨rfl, hb2⟩
      go_wp2_with fail
      go_meet
      exact ⟨by first | rfl | (simp; done) | (simp; omega), hb2⟩
    · go_wp2_with fail
      refine (HLI.out _).mono ?_
      rintro e w2 ⟨rfl, hb2⟩
      go_wp2_with fail
      go_meet
      exact ⟨by first | rfl | (simp; done) | (simp; omega), hb2⟩
  case rest =>
  obtain ⟨rfl, hbc⟩ := hcut
  obtain ⟨w2, hw2⟩ : ∃ V, V = wc := ⟨_, rfl⟩
  rw [← hw2] at hbc
  rw [← hw2]
  clear hw2
  have zb := hbc.size
  have b0 := (hbc.cell (p := ⟨w.heap.size, 0, none⟩) ao0).trans a0
  have b1 := (hbc.cell (p := ⟨w.heap.size, 1, none⟩) ao0).trans a1
  have b2 := (hbc.cell (p := ⟨w.heap.size, 2, none⟩) ao0).trans a2
  have b3 := (hbc.cell (p := ⟨w.heap.size, 3, none⟩) ao0).trans a3
  have b4 := (hbc.cell (p := ⟨w.heap.size, 4, none⟩) ao0).trans a4
  have b5 := (hbc.cell (p := ⟨w.heap.size, 5, none⟩) ao0).trans a5
  have b6 := (hbc.cell (p := ⟨w.heap.size, 6, none⟩) ao0).trans a6
  have b7 := (hbc.cell (p := ⟨w.heap.size, 7, none⟩) ao0).trans a7
  have bB : Below w.heap.size w w2 := aB.trans (hbc.mono aB.size)
  have bo0 : w.heap.size < w2.heap.size := by omega
  have bn0 : w2.heap.size ≠ w.heap.size := by omega
  clear hbc a0 a1 a2 a3 a4 a5 a6 a7 aB ao0 an0
  go_upto_region 5 with (fail)
  go_cut [5, 6] from 13 (fun s5 s6 wx => ∃ A5 cap5, s5 = .slice A5 G.length cap5 ∧ s6 = .int .i64 0 ∧ RowAt T.length G.length wx A5 (fol T n L G) ∧ Below w2.heap.size w2 wx)
  case first =>
    have HS : ∀ w', Below w2.heap.size w2 w' → w'.cell? ⟨w.heap.size, 0, none⟩ = some (.slice A T.length cap) ∧ w'.cell? ⟨w.heap.size, 1, none⟩ = some (.slice B L.length cap') ∧ w'.cell? ⟨w.heap.size, 7, none⟩ = some (.int .i64 (n : Int)) := fun w' hb => ⟨(hb.cell (p := ⟨w.heap.size, 0, none⟩) bo0).trans b0, (hb.cell (p := ⟨w.heap.size, 1, none⟩) bo0).trans b1, (hb.cell (p := ⟨w.heap.size, 7, none⟩) bo0).trans b7⟩
    have HS' := Lib.hid HS
    clear HS
    refine wp_region_held_drew (S := (fun w' => w'.cell? ⟨w.heap.size, 0, none⟩ = some (.slice A T.length cap) ∧ w'.cell? ⟨w.heap.size, 1, none⟩ = some (.slice B L.length cap') ∧ w'.cell? ⟨w.heap.size, 7, none⟩ = some (.int .i64 (n : Int)))) (by kernel_rfl) (by exact HS'.out _ (Below.refl w2.heap.size w2).drew) (fun hHeld => ?_)
    refine wpAnyH_take (i := 0) (oi := ⟨some 34, _, _, _, _, _⟩) (v := ?_) rfl (by kernel_rfl) (by kernel_rfl) (by kernel_rfl) (fun _ _ _ h => h) (Or.inl ⟨by kernel_rfl, ?_⟩) (by assumption) ?_
    rotate_left
    · (intro w hSw; (try dsimp only at hSw); go_simp; all_goals with_reducible rfl)
    try simp only [Act.put, List.setIfInBounds_toArray, List.set_cons_zero, List.set_cons_succ]
    refine wpAnyH_take (i := 1) (oi := ⟨some 35, _, _, _, _, _⟩) (v := ?_) rfl (by kernel_rfl) (by kernel_rfl) (by kernel_rfl) (fun _ _ _ h => h) (Or.inl ⟨by kernel_rfl, ?_⟩) (by assumption) ?_
    rotate_left
    · (intro w hSw; (try dsimp only at hSw); go_simp; all_goals with_reducible rfl)
    try simp only [Act.put, List.setIfInBounds_toArray, List.set_cons_zero, List.set_cons_succ]
    refine wpAnyH_take (i := 3) (oi := ⟨some 37, _, _, _, _, _⟩) (v := ?_) rfl (by kernel_rfl) (by kernel_rfl) (by kernel_rfl) (fun _ _ _ h => h) (Or.inl ⟨by kernel_rfl, ?_⟩) (by assumption) ?_
    rotate_left
    · (intro w hSw; (try dsimp only at hSw); go_simp; all_goals with_reducible rfl)
    try simp only [Act.put, List.setIfInBounds_toArray, List.set_cons_zero, List.set_cons_succ]
    refine wpAnyH_take (i := 4) (oi := ⟨some 38, _, _, _, _, _⟩) (v := ?_) rfl (by kernel_rfl) (by kernel_rfl) (by kernel_rfl) (fun _ _ _ h => h) (Or.inl ⟨by kernel_rfl, ?_⟩) (by assumption) ?_
    rotate_left
    · (intro w hSw; (try dsimp only at hSw); go_simp; all_goals with_reducible rfl)
    try simp only [Act.put, List.setIfInBounds_toArray, List.set_cons_zero, List.set_cons_succ]
    refine wpAnyH_take (i := 7) (oi := ⟨some 41, _, _, _, _, _⟩) (v := ?_) rfl (by kernel_rfl) (by kernel_rfl) (by kernel_rfl) (fun _ _ _ h => h) (Or.inl ⟨by kernel_rfl, ?_⟩) (by assumption) ?_
    rotate_left
    · (intro w hSw; (try dsimp only at hSw); go_simp; all_goals with_reducible rfl)
    try simp only [Act.put, List.setIfInBounds_toArray, List.set_cons_zero, List.set_cons_succ]
    refine wpAnyH_take (i := 9) (oi := ⟨some 43, _, _, _, _, _⟩) (v := ?_) rfl (by kernel_rfl) (by kernel_rfl) (by kernel_rfl) (fun _ _ _ h => h) (Or.inl ⟨by kernel_rfl, ?_⟩) (by assumption) ?_
    rotate_left
    · (intro w hSw; (try dsimp only at hSw); go_simp; all_goals with_reducible rfl)
    try simp only [Act.put, List.setIfInBounds_toArray, List.set_cons_zero, List.set_cons_succ]
    refine wpAnyH_take (i := 10) (oi := ⟨some 44, _, _, _, _, _⟩) (v := ?_) rfl (by kernel_rfl) (by kernel_rfl) (by kernel_rfl) (fun _ _ _ h => h) (Or.inl ⟨by kernel_rfl, ?_⟩) (by assumption) ?_
    rotate_left
    · (intro w hSw; (try dsimp only at hSw); go_simp; all_goals with_reducible rfl)
    try simp only [Act.put, List.setIfInBounds_toArray, List.set_cons_zero, List.set_cons_succ]
    have hB0 : Below w2.heap.size w2 w2.drew := (Below.refl w2.heap.size w2).drew
    generalize hdr : w2.drew = u0 at *
    clear hdr
    refine wpAnyH_ready (rs := [2, 6]) (by kernel_rfl) (by simp) ?_
    refine AllReadyH.cons rfl (fun K hK => ?_) (AllReadyH.cons rfl (fun K hK => ?_) (AllReadyH.nil))
    · skip
      go_simp
      refine (lawTable_any T A cap _ (by omega) HNA.out (HT.out.below (bB.trans ((hB0).mono bB.size)))).mono ?_
      rintro e u1 ⟨A2, cap2, rfl, hS, _, hb1⟩
      have HT_1 := Lib.hid hS
      clear hS
      have hB1 : Below w2.heap.size w2 u1 := (hB0).trans (hb1.mono (hB0).size)
      go_wp2_with fail
      refine hK.out _ _ (HS'.out _ hB1) (fun hHeld => ?_)
      clear hK K
      try simp only [Act.put, List.setIfInBounds_toArray, List.set_cons_zero, List.set_cons_succ]
      refine wpAnyH_ready (rs := [5, 6]) (by kernel_rfl) (by simp) ?_
      refine AllReadyH.cons rfl (fun K hK => ?_) (AllReadyH.cons rfl (fun K hK => ?_) (AllReadyH.nil))
      · skip
        go_simp
        refine (lawLoads_any L B cap' _ (by omega) HNB.out (HL.out.below (bB.trans ((hB1).mono bB.size)))).mono ?_
        rintro e u2 ⟨A3, cap3, rfl, hS, _, hb2⟩
        have HL_2 := Lib.hid hS
        clear hS
        have hB2 : Below w2.heap.size w2 u2 := (hB1).trans (hb2.mono (hB1).size)
        have HT_2 := Lib.hid (HT_1.out.below hb2)
        go_wp2_with fail
        refine hK.out _ _ (HS'.out _ hB2) (fun hHeld => ?_)
        clear hK K
        try simp only [Act.put, List.setIfInBounds_toArray, List.set_cons_zero, List.set_cons_succ]
        refine wpAnyH_ready (rs := [6]) (by kernel_rfl) (by simp) ?_
        refine AllReadyH.cons rfl (fun K hK => ?_) (AllReadyH.nil)
        go_simp
        go_wp2_with fail
        refine hK.out _ _ (HS'.out _ ((hB2).alloc (hB2).size _)) (fun hHeld => ?_)
        clear hK K
        try simp only [Act.put, List.setIfInBounds_toArray, List.set_cons_zero, List.set_cons_succ]
        obtain ⟨bz, ebz⟩ : ∃ x, u2.heap.size = x := ⟨_, rfl⟩
        generalize hq3 : u2.alloc (.cells #[] 55) = u3
        have hb3 : Below u2.heap.size u2 u3 := by rw [← hq3]; exact (Below.refl _ _).alloc (Nat.le_refl _) _
        have Z_3 : u3.heap[bz]? = some (.cells #[] 55 (0, 0)) := by rw [← hq3, ← ebz]; exact World.alloc_heap_new _ _
        have l_3 : bz < u3.heap.size := by rw [← hq3, ← ebz]; simp
        have gbz : w2.heap.size ≤ bz := by rw [← ebz]; exact (hB2).size
        have hB3 : Below w2.heap.size w2 u3 := (hB2).trans (hb3.mono (hB2).size)
        rw [ebz]
        have HT_3 := Lib.hid (HT_2.out.below hb3)
        have HL_3 := Lib.hid (HL_2.out.below hb3)
        clear hq3
        refine wpAnyH_ready (rs := [8]) (by kernel_rfl) (by simp) ?_
        refine AllReadyH.cons rfl (fun K hK => ?_) (AllReadyH.nil)
        rw [if_pos (by kernel_rfl)]
        have HOe := Lib.hid (own_empty (base := w2.heap.size) gbz Z_3)
        have HGu : SlTl u3 C G := HG.out.below (bB.trans ((hB3).mono bB.size))
        refine oper_append_slice _ _ 69 rfl w2.heap.size 55 i0 (.agg #[.int .i64 0, .int .i64 0, .int .i64 0, .int .i64 0, .int .i64 0]) 5 40 Try.underlying69 HIf.out HZ0.out HZ1.out HZ2.out rfl (by decide) _ 0 [] rfl HOe.out C G.length capg (tlc G) rfl ?c0 HTC.out.1 ?c1 HTC.out.2 ?c2 ?c3 ?c4 ?_
        case c0 =>
          intro hc
          refine ⟨?_, HNC.out hc⟩
          rcases HGu with hg | ⟨_, _, hg, _⟩
          · rw [hg]; rfl
          · rw [hc] at hg; cases hg
        case c1 =>
          intro ad had j u hj
          rcases HGu with hg | ⟨gb, go', hg, hlt, hgl⟩
          · rw [hg] at hj; simp [tlc] at hj
          · rw [hg] at had; cases had; exact tlc_cells hgl j u hj
        case c2 => unfold maxLen; omega
        case c3 => omega
        case c4 => exact (hB3).size
        intro v' u4 hown hgrow
        try simp only [Nat.zero_add, List.nil_append] at hown
        have hB4 : Below w2.heap.size w2 u4 := (hB3).grown hgrow (hB3).size (fun r hr => by have h9 : bz = r := Option.some.inj hr; omega)
        obtain ⟨A4, cap4, rfl, hS4, _⟩ := SlTl_own hown
        have HG_4 := Lib.hid hS4
        have HT_4 := Lib.hid (HT_3.out.grown Z_3 hgrow)
        have HL_4 := Lib.hid (HL_3.out.grown Z_3 hgrow)
        clear hown hgrow hS4 HOe HGu
        refine hK.out _ _ (HS'.out _ hB4) (fun hHeld => ?_)
        clear hK K
        try simp only [Act.put, List.setIfInBounds_toArray, List.set_cons_zero, List.set_cons_succ]
        refine wpAnyH_ready (rs := [11]) (by kernel_rfl) (by simp) ?_
        refine AllReadyH.cons rfl (fun K hK => ?_) (AllReadyH.nil)
        go_simp
        refine (Followed_good T L G A2 A3 A4 cap2 cap3 cap4 n L.length _ rfl hq hg hn6 HT_4.out HL_4.out HG_4.out).mono ?_
        rintro e u5 ⟨v5, xs5, rfl, hO5, hS5, hb5⟩
        obtain ⟨A5, cap5, rfl, hR5⟩ := rowS hO5 hS5
        have HR5 : Hid (RowAt T.length G.length u5 A5 (fol T n L G)) := Lib.hid hR5
        clear hO5 hS5 hR5
        have hB5 : Below w2.heap.size w2 u5 := (hB4).trans (hb5.mono (hB4).size)
        go_wp2_with fail
        refine hK.out _ _ (HS'.out _ hB5) (fun hHeld => ?_)
        clear hK K
        try simp only [Act.put, List.setIfInBounds_toArray, List.set_cons_zero, List.set_cons_succ]
        refine wpAnyH_take (i := 12) (oi := ⟨some 33, _, _, _, _, _⟩) (v := ?_) rfl (by kernel_rfl) (by kernel_rfl) (by kernel_rfl) (fun _ _ _ h => h) (Or.inl ⟨by kernel_rfl, ?_⟩) (by assumption) ?_
        rotate_left
        · (intro w hSw; (try dsimp only at hSw); go_simp; all_goals with_reducible rfl)
        try simp only [Act.put, List.setIfInBounds_toArray, List.set_cons_zero, List.set_cons_succ]
        refine wpAnyH_take (i := 13) (oi := ⟨some 46, _, _, _, _, _⟩) (v := ?_) rfl (by kernel_rfl) (by kernel_rfl) (by kernel_rfl) (fun _ _ _ h => h) (Or.inl ⟨by kernel_rfl, ?_⟩) (by assumption) ?_
        rotate_left
        · (intro w hSw; (try dsimp only at hSw); go_simp; all_goals with_reducible rfl)
        try simp only [Act.put, List.setIfInBounds_toArray, List.set_cons_zero, List.set_cons_succ]
        refine wpAnyH_take (i := 14) (oi := ⟨some 47, _, _, _, _, _⟩) (v := ?_) rfl (by kernel_rfl) (by kernel_rfl) (by kernel_rfl) (fun _ _ _ h => h) (Or.inl ⟨by kernel_rfl, ?_⟩) (by assumption) ?_
        rotate_left
        · (intro w hSw; (try dsimp only at hSw); go_simp; all_goals with_reducible rfl)
        try simp only [Act.put, List.setIfInBounds_toArray, List.set_cons_zero, List.set_cons_succ]
        refine wpAnyH_take (i := 15) (oi := ⟨some 5, _, _, _, _, _⟩) (v := ?_) rfl (by kernel_rfl) (by kernel_rfl) (by kernel_rfl) (fun _ _ _ h => h) (Or.inl ⟨by kernel_rfl, ?_⟩) (by assumption) ?_
        rotate_left
        · (intro w hSw; (try dsimp only at hSw); go_simp; all_goals with_reducible rfl)
        try simp only [Act.put, List.setIfInBounds_toArray, List.set_cons_zero, List.set_cons_succ]
        refine wpAnyH_take (i := 16) (oi := ⟨some 6, _, _, _, _, _⟩) (v := ?_) rfl (by kernel_rfl) (by kernel_rfl) (by kernel_rfl) (fun _ _ _ h => h) (Or.inl ⟨by kernel_rfl, ?_⟩) (by assumption) ?_
        rotate_left
        · (intro w hSw; (try dsimp only at hSw); go_simp; all_goals with_reducible rfl)
        try simp only [Act.put, List.setIfInBounds_toArray, List.set_cons_zero, List.set_cons_succ]
        refine wpAnyH_done (by kernel_rfl) ?_ _
        go_wp2_with fail
        go_meet
        exact ⟨A5, cap5, rfl, rfl, HR5.out, hB5⟩
      · skip
        go_simp
        go_wp2_with fail
        refine hK.out _ _ (HS'.out _ ((hB1).alloc (hB1).size _)) (fun hHeld => ?_)
        clear hK K
        try simp only [Act.put, List.setIfInBounds_toArray, List.set_cons_zero, List.set_cons_succ]
        obtain ⟨bz, ebz⟩ : ∃ x, u1.heap.size = x := ⟨_, rfl⟩
        generalize hq2 : u1.alloc (.cells #[] 55) = u2
        have hb2 : Below u1.heap.size u1 u2 := by rw [← hq2]; exact (Below.refl _ _).alloc (Nat.le_refl _) _
        have Z_2 : u2.heap[bz]? = some (.cells #[] 55 (0, 0)) := by rw [← hq2, ← ebz]; exact World.alloc_heap_new _ _
        have l_2 : bz < u2.heap.size := by rw [← hq2, ← ebz]; simp
        have gbz : w2.heap.size ≤ bz := by rw [← ebz]; exact (hB1).size
        have hB2 : Below w2.heap.size w2 u2 := (hB1).trans (hb2.mono (hB1).size)
        rw [ebz]
        have HT_2 := Lib.hid (HT_1.out.below hb2)
        clear hq2
        refine wpAnyH_ready (rs := [5]) (by kernel_rfl) (by simp) ?_
        refine AllReadyH.cons rfl (fun K hK => ?_) (AllReadyH.nil)
        go_simp
        refine (lawLoads_any L B cap' _ (by omega) HNB.out (HL.out.below (bB.trans ((hB2).mono bB.size)))).mono ?_
        rintro e u3 ⟨A3, cap3, rfl, hS, _, hb3⟩
        have HL_3 := Lib.hid hS
        clear hS
        have hB3 : Below w2.heap.size w2 u3 := (hB2).trans (hb3.mono (hB2).size)
        have HT_3 := Lib.hid (HT_2.out.below hb3)
        have Z_3 : u3.heap[bz]? = some (.cells #[] 55 (0, 0)) := (hb3.block bz l_2).trans Z_2
        have l_3 : bz < u3.heap.size := Nat.lt_of_lt_of_le l_2 hb3.size
        go_wp2_with fail
        refine hK.out _ _ (HS'.out _ hB3) (fun hHeld => ?_)
        clear hK K
        try simp only [Act.put, List.setIfInBounds_toArray, List.set_cons_zero, List.set_cons_succ]
        refine wpAnyH_ready (rs := [8]) (by kernel_rfl) (by simp) ?_
        refine AllReadyH.cons rfl (fun K hK => ?_) (AllReadyH.nil)
        rw [if_pos (by kernel_rfl)]
        have HOe := Lib.hid (own_empty (base := w2.heap.size) gbz Z_3)
        have HGu : SlTl u3 C G := HG.out.below (bB.trans ((hB3).mono bB.size))
        refine oper_append_slice _ _ 69 rfl w2.heap.size 55 i0 (.agg #[.int .i64 0, .int .i64 0, .int .i64 0, .int .i64 0, .int .i64 0]) 5 40 Try.underlying69 HIf.out HZ0.out HZ1.out HZ2.out rfl (by decide) _ 0 [] rfl HOe.out C G.length capg (tlc G) rfl ?c0 HTC.out.1 ?c1 HTC.out.2 ?c2 ?c3 ?c4 ?_
        case c0 =>
          intro hc
          refine ⟨?_, HNC.out hc⟩
          rcases HGu with hg | ⟨_, _, hg, _⟩
          · rw [hg]; rfl
          · rw [hc] at hg; cases hg
        case c1 =>
          intro ad had j u hj
          rcases HGu with hg | ⟨gb, go', hg, hlt, hgl⟩
          · rw [hg] at hj; simp [tlc] at hj
          · rw [hg] at had; cases had; exact tlc_cells hgl j u hj
        case c2 => unfold maxLen; omega
        case c3 => omega
        case c4 => exact (hB3).size
        intro v' u4 hown hgrow
        try simp only [Nat.zero_add, List.nil_append] at hown
        have hB4 : Below w2.heap.size w2 u4 := (hB3).grown hgrow (hB3).size (fun r hr => by have h9 : bz = r := Option.some.inj hr; omega)
        obtain ⟨A4, cap4, rfl, hS4, _⟩ := SlTl_own hown
        have HG_4 := Lib.hid hS4
        have HT_4 := Lib.hid (HT_3.out.grown Z_3 hgrow)
        have HL_4 := Lib.hid (HL_3.out.grown Z_3 hgrow)
        clear hown hgrow hS4 HOe HGu
        refine hK.out _ _ (HS'.out _ hB4) (fun hHeld => ?_)
        clear hK K
        try simp only [Act.put, List.setIfInBounds_toArray, List.set_cons_zero, List.set_cons_succ]
        refine wpAnyH_ready (rs := [11]) (by kernel_rfl) (by simp) ?_
        refine AllReadyH.cons rfl (fun K hK => ?_) (AllReadyH.nil)
        go_simp
        refine (Followed_good T L G A2 A3 A4 cap2 cap3 cap4 n L.length _ rfl hq hg hn6 HT_4.out HL_4.out HG_4.out).mono ?_
        rintro e u5 ⟨v5, xs5, rfl, hO5, hS5, hb5⟩
        obtain ⟨A5, cap5, rfl, hR5⟩ := rowS hO5 hS5
        have HR5 : Hid (RowAt T.length G.length u5 A5 (fol T n L G)) := Lib.hid hR5
        clear hO5 hS5 hR5
        have hB5 : Below w2.heap.size w2 u5 := (hB4).trans (hb5.mono (hB4).size)
        go_wp2_with fail
        refine hK.out _ _ (HS'.out _ hB5) (fun hHeld => ?_)
        clear hK K
        try simp only [Act.put, List.setIfInBounds_toArray, List.set_cons_zero, List.set_cons_succ]
        refine wpAnyH_take (i := 12) (oi := ⟨some 33, _, _, _, _, _⟩) (v := ?_) rfl (by kernel_rfl) (by kernel_rfl) (by kernel_rfl) (fun _ _ _ h => h) (Or.inl ⟨by kernel_rfl, ?_⟩) (by assumption) ?_
        rotate_left
        · (intro w hSw; (try dsimp only at hSw); go_simp; all_goals with_reducible rfl)
        try simp only [Act.put, List.setIfInBounds_toArray, List.set_cons_zero, List.set_cons_succ]
        refine wpAnyH_take (i := 13) (oi := ⟨some 46, _, _, _, _, _⟩) (v := ?_) rfl (by kernel_rfl) (by kernel_rfl) (by kernel_rfl) (fun _ _ _ h => h) (Or.inl ⟨by kernel_rfl, ?_⟩) (by assumption) ?_
        rotate_left
        · (intro w hSw; (try dsimp only at hSw); go_simp; all_goals with_reducible rfl)
        try simp only [Act.put, List.setIfInBounds_toArray, List.set_cons_zero, List.set_cons_succ]
        refine wpAnyH_take (i := 14) (oi := ⟨some 47, _, _, _, _, _⟩) (v := ?_) rfl (by kernel_rfl) (by kernel_rfl) (by kernel_rfl) (fun _ _ _ h => h) (Or.inl ⟨by kernel_rfl, ?_⟩) (by assumption) ?_
        rotate_left
        · (intro w hSw; (try dsimp only at hSw); go_simp; all_goals with_reducible rfl)
        try simp only [Act.put, List.setIfInBounds_toArray, List.set_cons_zero, List.set_cons_succ]
        refine wpAnyH_take (i := 15) (oi := ⟨some 5, _, _, _, _, _⟩) (v := ?_) rfl (by kernel_rfl) (by kernel_rfl) (by kernel_rfl) (fun _ _ _ h => h) (Or.inl ⟨by kernel_rfl, ?_⟩) (by assumption) ?_
        rotate_left
        · (intro w hSw; (try dsimp only at hSw); go_simp; all_goals with_reducible rfl)
        try simp only [Act.put, List.setIfInBounds_toArray, List.set_cons_zero, List.set_cons_succ]
        refine wpAnyH_take (i := 16) (oi := ⟨some 6, _, _, _, _, _⟩) (v := ?_) rfl (by kernel_rfl) (by kernel_rfl) (by kernel_rfl) (fun _ _ _ h => h) (Or.inl ⟨by kernel_rfl, ?_⟩) (by assumption) ?_
        rotate_left
        · (intro w hSw; (try dsimp only at hSw); go_simp; all_goals with_reducible rfl)
        try simp only [Act.put, List.setIfInBounds_toArray, List.set_cons_zero, List.set_cons_succ]
        refine wpAnyH_done (by kernel_rfl) ?_ _
        go_wp2_with fail
        go_meet
        exact ⟨A5, cap5, rfl, rfl, HR5.out, hB5⟩
    · skip
      go_simp
      go_wp2_with fail
      refine hK.out _ _ (HS'.out _ ((hB0).alloc (hB0).size _)) (fun hHeld => ?_)
      clear hK K
      try simp only [Act.put, List.setIfInBounds_toArray, List.set_cons_zero, List.set_cons_succ]
      obtain ⟨bz, ebz⟩ : ∃ x, u0.heap.size = x := ⟨_, rfl⟩
      generalize hq1 : u0.alloc (.cells #[] 55) = u1
      have hb1 : Below u0.heap.size u0 u1 := by rw [← hq1]; exact (Below.refl _ _).alloc (Nat.le_refl _) _
      have Z_1 : u1.heap[bz]? = some (.cells #[] 55 (0, 0)) := by rw [← hq1, ← ebz]; exact World.alloc_heap_new _ _
      have l_1 : bz < u1.heap.size := by rw [← hq1, ← ebz]; simp
      have gbz : w2.heap.size ≤ bz := by rw [← ebz]; exact (hB0).size
      have hB1 : Below w2.heap.size w2 u1 := (hB0).trans (hb1.mono (hB0).size)
      rw [ebz]
      clear hq1
      refine wpAnyH_ready (rs := [2]) (by kernel_rfl) (by simp) ?_
      refine AllReadyH.cons rfl (fun K hK => ?_) (AllReadyH.nil)
      go_simp
      refine (lawTable_any T A cap _ (by omega) HNA.out (HT.out.below (bB.trans ((hB1).mono bB.size)))).mono ?_
      rintro e u2 ⟨A2, cap2, rfl, hS, _, hb2⟩
      have HT_2 := Lib.hid hS
      clear hS
      have hB2 : Below w2.heap.size w2 u2 := (hB1).trans (hb2.mono (hB1).size)
      have Z_2 : u2.heap[bz]? = some (.cells #[] 55 (0, 0)) := (hb2.block bz l_1).trans Z_1
      have l_2 : bz < u2.heap.size := Nat.lt_of_lt_of_le l_1 hb2.size
      go_wp2_with fail
      refine hK.out _ _ (HS'.out _ hB2) (fun hHeld => ?_)
      clear hK K
      try simp only [Act.put, List.setIfInBounds_toArray, List.set_cons_zero, List.set_cons_succ]
      refine wpAnyH_ready (rs := [5]) (by kernel_rfl) (by simp) ?_
      refine AllReadyH.cons rfl (fun K hK => ?_) (AllReadyH.nil)
      go_simp
      refine (lawLoads_any L B cap' _ (by omega) HNB.out (HL.out.below (bB.trans ((hB2).mono bB.size)))).mono ?_
      rintro e u3 ⟨A3, cap3, rfl, hS, _, hb3⟩
      have HL_3 := Lib.hid hS
      clear hS
      have hB3 : Below w2.heap.size w2 u3 := (hB2).trans (hb3.mono (hB2).size)
      have HT_3 := Lib.hid (HT_2.out.below hb3)
      have Z_3 : u3.heap[bz]? = some (.cells #[] 55 (0, 0)) := (hb3.block bz l_2).trans Z_2
      have l_3 : bz < u3.heap.size := Nat.lt_of_lt_of_le l_2 hb3.size
      go_wp2_with fail
      refine hK.out _ _ (HS'.out _ hB3) (fun hHeld => ?_)
      clear hK K
      try simp only [Act.put, List.setIfInBounds_toArray, List.set_cons_zero, List.set_cons_succ]
      refine wpAnyH_ready (rs := [8]) (by kernel_rfl) (by simp) ?_
      refine AllReadyH.cons rfl (fun K hK => ?_) (AllReadyH.nil)
      rw [if_pos (by kernel_rfl)]
      have HOe := Lib.hid (own_empty (base := w2.heap.size) gbz Z_3)
      have HGu : SlTl u3 C G := HG.out.below (bB.trans ((hB3).mono bB.size))
      refine oper_append_slice _ _ 69 rfl w2.heap.size 55 i0 (.agg #[.int .i64 0, .int .i64 0, .int .i64 0, .int .i64 0, .int .i64 0]) 5 40 Try.underlying69 HIf.out HZ0.out HZ1.out HZ2.out rfl (by decide) _ 0 [] rfl HOe.out C G.length capg (tlc G) rfl ?c0 HTC.out.1 ?c1 HTC.out.2 ?c2 ?c3 ?c4 ?_
      case c0 =>
        intro hc
        refine ⟨?_, HNC.out hc⟩
        rcases HGu with hg | ⟨_, _, hg, _⟩
        · rw [hg]; rfl
        · rw [hc] at hg; cases hg
      case c1 =>
        intro ad had j u hj
        rcases HGu with hg | ⟨gb, go', hg, hlt, hgl⟩
        · rw [hg] at hj; simp [tlc] at hj
        · rw [hg] at had; cases had; exact tlc_cells hgl j u hj
      case c2 => unfold maxLen; omega
      case c3 => omega
      case c4 => exact (hB3).size
      intro v' u4 hown hgrow
      try simp only [Nat.zero_add, List.nil_append] at hown
      have hB4 : Below w2.heap.size w2 u4 := (hB3).grown hgrow (hB3).size (fun r hr => by have h9 : bz = r := Option.some.inj hr; omega)
      obtain ⟨A4, cap4, rfl, hS4, _⟩ := SlTl_own hown
      have HG_4 := Lib.hid hS4
      have HT_4 := Lib.hid (HT_3.out.grown Z_3 hgrow)
      have HL_4 := Lib.hid (HL_3.out.grown Z_3 hgrow)
      clear hown hgrow hS4 HOe HGu
      refine hK.out _ _ (HS'.out _ hB4) (fun hHeld => ?_)
      clear hK K
      try simp only [Act.put, List.setIfInBounds_toArray, List.set_cons_zero, List.set_cons_succ]
      refine wpAnyH_ready (rs := [11]) (by kernel_rfl) (by simp) ?_
      refine AllReadyH.cons rfl (fun K hK => ?_) (AllReadyH.nil)
      go_simp
      refine (Followed_good T L G A2 A3 A4 cap2 cap3 cap4 n L.length _ rfl hq hg hn6 HT_4.out HL_4.out HG_4.out).mono ?_
      rintro e u5 ⟨v5, xs5, rfl, hO5, hS5, hb5⟩
      obtain ⟨A5, cap5, rfl, hR5⟩ := rowS hO5 hS5
      have HR5 : Hid (RowAt T.length G.length u5 A5 (fol T n L G)) := Lib.hid hR5
      clear hO5 hS5 hR5
      have hB5 : Below w2.heap.size w2 u5 := (hB4).trans (hb5.mono (hB4).size)
      go_wp2_with fail
      refine hK.out _ _ (HS'.out _ hB5) (fun hHeld => ?_)
      clear hK K
      try simp only [Act.put, List.setIfInBounds_toArray, List.set_cons_zero, List.set_cons_succ]
      refine wpAnyH_take (i := 12) (oi := ⟨some 33, _, _, _, _, _⟩) (v := ?_) rfl (by kernel_rfl) (by kernel_rfl) (by kernel_rfl) (fun _ _ _ h => h) (Or.inl ⟨by kernel_rfl, ?_⟩) (by assumption) ?_
      rotate_left
      · (intro w hSw; (try dsimp only at hSw); go_simp; all_goals with_reducible rfl)
      try simp only [Act.put, List.setIfInBounds_toArray, List.set_cons_zero, List.set_cons_succ]
      refine wpAnyH_take (i := 13) (oi := ⟨some 46, _, _, _, _, _⟩) (v := ?_) rfl (by kernel_rfl) (by kernel_rfl) (by kernel_rfl) (fun _ _ _ h => h) (Or.inl ⟨by kernel_rfl, ?_⟩) (by assumption) ?_
      rotate_left
      · (intro w hSw; (try dsimp only at hSw); go_simp; all_goals with_reducible rfl)
      try simp only [Act.put, List.setIfInBounds_toArray, List.set_cons_zero, List.set_cons_succ]
      refine wpAnyH_take (i := 14) (oi := ⟨some 47, _, _, _, _, _⟩) (v := ?_) rfl (by kernel_rfl) (by kernel_rfl) (by kernel_rfl) (fun _ _ _ h => h) (Or.inl ⟨by kernel_rfl, ?_⟩) (by assumption) ?_
      rotate_left
      · (intro w hSw; (try dsimp only at hSw); go_simp; all_goals with_reducible rfl)
      try simp only [Act.put, List.setIfInBounds_toArray, List.set_cons_zero, List.set_cons_succ]
      refine wpAnyH_take (i := 15) (oi := ⟨some 5, _, _, _, _, _⟩) (v := ?_) rfl (by kernel_rfl) (by kernel_rfl) (by kernel_rfl) (fun _ _ _ h => h) (Or.inl ⟨by kernel_rfl, ?_⟩) (by assumption) ?_
      rotate_left
      · (intro w hSw; (try dsimp only at hSw); go_simp; all_goals with_reducible rfl)
      try simp only [Act.put, List.setIfInBounds_toArray, List.set_cons_zero, List.set_cons_succ]
      refine wpAnyH_take (i := 16) (oi := ⟨some 6, _, _, _, _, _⟩) (v := ?_) rfl (by kernel_rfl) (by kernel_rfl) (by kernel_rfl) (fun _ _ _ h => h) (Or.inl ⟨by kernel_rfl, ?_⟩) (by assumption) ?_
      rotate_left
      · (intro w hSw; (try dsimp only at hSw); go_simp; all_goals with_reducible rfl)
      try simp only [Act.put, List.setIfInBounds_toArray, List.set_cons_zero, List.set_cons_succ]
      refine wpAnyH_done (by kernel_rfl) ?_ _
      go_wp2_with fail
      go_meet
      exact ⟨A5, cap5, rfl, rfl, HR5.out, hB5⟩
  case rest =>
  obtain ⟨A5, cap5, rfl, rfl, hrow, hbc⟩ := hcut
  obtain ⟨w3, hw3⟩ : ∃ V, V = wc := ⟨_, rfl⟩
  rw [← hw3] at hbc hrow
  rw [← hw3]
  have HR3 := Lib.hid hrow
  clear hw3 hrow
  have zc := hbc.size
  have c0 := (hbc.cell (p := ⟨w.heap.size, 0, none⟩) bo0).trans b0
  have c1 := (hbc.cell (p := ⟨w.heap.size, 1, none⟩) bo0).trans b1
  have c2 := (hbc.cell (p := ⟨w.heap.size, 2, none⟩) bo0).trans b2
  have c3 := (hbc.cell (p := ⟨w.heap.size, 3, none⟩) bo0).trans b3
  have c4 := (hbc.cell (p := ⟨w.heap.size, 4, none⟩) bo0).trans b4
  have c5 := (hbc.cell (p := ⟨w.heap.size, 5, none⟩) bo0).trans b5
  have c6 := (hbc.cell (p := ⟨w.heap.size, 6, none⟩) bo0).trans b6
  have c7 := (hbc.cell (p := ⟨w.heap.size, 7, none⟩) bo0).trans b7
  have cB : Below w.heap.size w w3 := bB.trans (hbc.mono bB.size)
  have co0 : w.heap.size < w3.heap.size := by omega
  have cn0 : w3.heap.size ≠ w.heap.size := by omega
  clear hbc b0 b1 b2 b3 b4 b5 b6 b7 bB bo0 bn0
  go_wp2_with fail
  refine (refCheckLoads_is T L A B cap cap' 0 _ hl hl' hq (HT.out.below (by exact (by (repeat (first | (with_reducible refine Below.drew ?_) | (with_reducible refine below_drewN ?_ _) | (with_reducible refine Below.alloc ?_ (by first | omega | (simp; done) | (simp; omega) | (simp at *; omega)) _) | (with_reducible refine Below.setCell ?_ (by first | omega | (simp; done) | (simp; omega) | (simp at *; omega)) _) | (with_reducible exact Below.refl _ _) | (with_reducible assumption) | (with_reducible refine Below.trans ?_ (Below.mono (by assumption) (by first | omega | (simp; done) | (simp; omega) | (simp at *; omega))))))))) (HL.out.below (by exact (by (repeat (first | (with_reducible refine Below.drew ?_) | (with_reducible refine below_drewN ?_ _) | (with_reducible refine Below.alloc ?_ (by first | omega | (simp; done) | (simp; omega) | (simp at *; omega)) _) | (with_reducible refine Below.setCell ?_ (by first | omega | (simp; done) | (simp; omega) | (simp at *; omega)) _) | (with_reducible exact Below.refl _ _) | (with_reducible assumption) | (with_reducible refine Below.trans ?_ (Below.mono (by assumption) (by first | omega | (simp; done) | (simp; omega) | (simp at *; omega)))))))))).mono ?_
  rintro e w4 ⟨rfl, hb4⟩
  have HR4 := Lib.hid (HR3.out.below hb4)
  clear HR3
  have zd := hb4.size
  try simp at zd
  have d0 : w4.cell? ⟨w.heap.size, 0, none⟩ = some (.slice A T.length cap) := (by rw [(bcell hb4).1 _ _ (by first | (simp; done) | (simp; omega) | omega)]; simp [go_sem, World.cell?_alloc_past, *])
  have d1 : w4.cell? ⟨w.heap.size, 1, none⟩ = some (.slice B L.length cap') := (by rw [(bcell hb4).1 _ _ (by first | (simp; done) | (simp; omega) | omega)]; simp [go_sem, World.cell?_alloc_past, *])
  have d2 : w4.cell? ⟨w.heap.size, 2, none⟩ = some (.int .i64 fr) := (by rw [(bcell hb4).1 _ _ (by first | (simp; done) | (simp; omega) | omega)]; simp [go_sem, World.cell?_alloc_past, *])
  have d3 : w4.cell? ⟨w.heap.size, 3, none⟩ = some (.int .i64 tz) := (by rw [(bcell hb4).1 _ _ (by first | (simp; done) | (simp; omega) | omega)]; simp [go_sem, World.cell?_alloc_past, *])
  have d4 : w4.cell? ⟨w.heap.size, 4, none⟩ = some (.int .i64 se) := (by rw [(bcell hb4).1 _ _ (by first | (simp; done) | (simp; omega) | omega)]; simp [go_sem, World.cell?_alloc_past, *])
  have d5 : w4.cell? ⟨w.heap.size, 5, none⟩ = some (.int .i64 o) := (by rw [(bcell hb4).1 _ _ (by first | (simp; done) | (simp; omega) | omega)]; simp [go_sem, World.cell?_alloc_past, *])
  have d6 : w4.cell? ⟨w.heap.size, 6, none⟩ = some (.int .i64 hh) := (by rw [(bcell hb4).1 _ _ (by first | (simp; done) | (simp; omega) | omega)]; simp [go_sem, World.cell?_alloc_past, *])
  have d7 : w4.cell? ⟨w.heap.size, 7, none⟩ = some (.int .i64 (n : Int)) := (by rw [(bcell hb4).1 _ _ (by first | (simp; done) | (simp; omega) | omega)]; simp [go_sem, World.cell?_alloc_past, *])
  have dB : Below w.heap.size w w4 := (by (repeat (first | (with_reducible refine Below.drew ?_) | (with_reducible refine below_drewN ?_ _) | (with_reducible refine Below.alloc ?_ (by first | omega | (simp; done) | (simp; omega) | (simp at *; omega)) _) | (with_reducible refine Below.setCell ?_ (by first | omega | (simp; done) | (simp; omega) | (simp at *; omega)) _) | (with_reducible exact Below.refl _ _) | (with_reducible assumption) | (with_reducible refine Below.trans ?_ (Below.mono (by assumption) (by first | omega | (simp; done) | (simp; omega) | (simp at *; omega)))))))
  have do0 : w.heap.size < w4.heap.size := by omega
  have dn0 : w4.heap.size ≠ w.heap.size := by omega
  clear hb4 c0 c1 c2 c3 c4 c5 c6 c7 cB co0 cn0
  have HE4 := Lib.hid (And.intro d0 (And.intro d1 (And.intro d7 (And.intro dB do0))))
  clear d0 d1 d2 d3 d4 d5 d6 d7 dB do0 dn0
  go_upto_block 0 with (fail)
  go_cut [7, 8] from 60 to 74 (fun s7 s8 wx => s7 = .int .i64 0 ∧ Below w4.heap.size w4 wx)
  case first =>
    go_wp2_with fail
    go_loopw [7, 8] (fun c i wr => ∃ k : Nat, k ≤ G.length ∧ i = .int .i64 k ∧ c = .int .i64 0 ∧ Below w4.heap.size w4 wr) (fun _ i _ => G.length - (intOf i).toNat)
    case atStart => exact ⟨0, by omega, rfl, rfl, Below.refl _ _⟩
    case round =>
      obtain ⟨k, hk, rfl, rfl, hB⟩ := hrel
      by_cases hkl : k < G.length
      · have hkl2 : (k : Int) < G.length := by omega
        rcases (HG.out.below (HE4.out.2.2.2.1.trans (hB.mono HE4.out.2.2.2.1.size)) : SlTl wr C G) with hnil | ⟨pb, po, hCC, plt, PL⟩
        · rw [hnil] at hkl; simp at hkl
        subst hCC
        obtain ⟨c0, c1, c2, c3, c4⟩ := PL k hkl
        have hr : Hid (legE G[k].f G[k].t G[k].s G[k].o G[k].h = 0) := Lib.hid (HGE.out k hkl)
        obtain ⟨p0, hp0⟩ : ∃ x, Hid (G[k].f = x) := ⟨_, Lib.hid rfl⟩
        obtain ⟨p1, hp1⟩ : ∃ x, Hid (G[k].t = x) := ⟨_, Lib.hid rfl⟩
        obtain ⟨p2, hp2⟩ : ∃ x, Hid (G[k].s = x) := ⟨_, Lib.hid rfl⟩
        obtain ⟨p3, hp3⟩ : ∃ x, Hid (G[k].o = x) := ⟨_, Lib.hid rfl⟩
        obtain ⟨p4, hp4⟩ : ∃ x, Hid (G[k].h = x) := ⟨_, Lib.hid rfl⟩
        rw [hp0.out, hp1.out, hp2.out, hp3.out, hp4.out] at hr
        rw [hp0.out] at c0; rw [hp1.out] at c1; rw [hp2.out] at c2; rw [hp3.out] at c3; rw [hp4.out] at c4
        clear PL hp0 hp1 hp2 hp3 hp4
        go_wp2_with fail
        refine (refCheckLeg_is p0 p1 p2 p3 p4 0 _ hr).mono ?_
        rintro e w9 ⟨rfl, hb9⟩
        have hB9 : Below w4.heap.size w4 w9 := hB.trans (hb9.mono hB.size)
        clear hb9 hB c0 c1 c2 c3 c4
        go_wp2
        go_roundw
        case rel => exact ⟨k + 1, by omega, by go_num, rfl, hB9⟩
        case measure => simp [intOf]; omega
      · have hkl2 : ¬ (k : Int) < G.length := by omega
        clear hkl
        go_wp2_with fail
        go_meet
        exact ⟨rfl, hB⟩
  case rest =>
  obtain ⟨rfl, hbc⟩ := hcut
  obtain ⟨w5, hw5⟩ : ∃ V, V = wc := ⟨_, rfl⟩
  rw [← hw5] at hbc
  rw [← hw5]
  have HR5 := Lib.hid (HR4.out.below hbc)
  have f0 := (hbc.cell (p := ⟨w.heap.size, 0, none⟩) HE4.out.2.2.2.2).trans HE4.out.1
  have f1 := (hbc.cell (p := ⟨w.heap.size, 1, none⟩) HE4.out.2.2.2.2).trans HE4.out.2.1
  have f7 := (hbc.cell (p := ⟨w.heap.size, 7, none⟩) HE4.out.2.2.2.2).trans HE4.out.2.2.1
  have fB : Below w.heap.size w w5 := HE4.out.2.2.2.1.trans (hbc.mono HE4.out.2.2.2.1.size)
  have fo : w.heap.size < w5.heap.size := Nat.lt_of_lt_of_le HE4.out.2.2.2.2 hbc.size
  have HE5 := Lib.hid (And.intro f0 (And.intro f7 (And.intro fB fo)))
  clear hw5 hbc HE4 HR4
  go_wp2_with ((go_at_call 38; ((with_reducible refine (HIF.out _).mono ?_)); rintro e w' ⟨rfl, rfl⟩))
  clear f0 f1 f7 fB fo
  go_loopw [9, 10] (fun nw i wr => ∃ (k mk : Nat) (An : Option Addr) (cn : Nat), i = .int .i64 k ∧ k ≤ G.length ∧ nw = .slice An mk cn ∧ mk ≤ 19 ∧ Hid ((fol T n L G k).length = mk ∧ (An = none → cn = 0)) ∧ Hid (SlLd wr An (fol T n L G k)) ∧ Below w5.heap.size w5 wr) (fun _ i _ => G.length - (intOf i).toNat)
  case atStart => exact ⟨0, L.length, B, cap', rfl, by omega, rfl, hll, Lib.hid ⟨rfl, HNB.out⟩, Lib.hid (HL.out.below HE5.out.2.2.1), Below.refl _ _⟩
  case round =>
    obtain ⟨k, mk, An, cn, rfl, hk, rfl, hmk, HMK, HN, hB⟩ := hrel
    by_cases hkl : k < G.length
    · have hkl2 : (k : Int) < G.length := by omega
      have BW : Below w.heap.size w wr := HE5.out.2.2.1.trans (hB.mono HE5.out.2.2.1.size)
      have r0 := (hB.cell (p := ⟨w.heap.size, 0, none⟩) HE5.out.2.2.2).trans HE5.out.1
      have r7 := (hB.cell (p := ⟨w.heap.size, 7, none⟩) HE5.out.2.2.2).trans HE5.out.2.1
      have ro : w.heap.size < wr.heap.size := Nat.lt_of_lt_of_le HE5.out.2.2.2 hB.size
      obtain ⟨g5, q5, qf5, qc5, hA5, hg5, hrc, hq5, hL5⟩ := HR5.out.below hB k hkl
      subst hA5
      rcases (HG.out.below BW : SlTl wr C G) with hnil | ⟨pb, po, hCC, plt, PL⟩
      · rw [hnil] at hkl; simp at hkl
      subst hCC
      obtain ⟨c0, c1, c2, c3, c4⟩ := PL k hkl
      have hr : Hid (legE G[k].f G[k].t G[k].s G[k].o G[k].h = 0) := Lib.hid (HGE.out k hkl)
      have hpe : ldR G[k].f G[k].t G[k].s n G[k].o G[k].h T (fol T n L G k) (stK G[k].s n) = fol T n L G (k + 1) := by
        conv => rhs; unfold fol
        rw [getD_of hkl]
      obtain ⟨p0, hp0⟩ : ∃ x, Hid (G[k].f = x) := ⟨_, Lib.hid rfl⟩
      obtain ⟨p1, hp1⟩ : ∃ x, Hid (G[k].t = x) := ⟨_, Lib.hid rfl⟩
      obtain ⟨p2, hp2⟩ : ∃ x, Hid (G[k].s = x) := ⟨_, Lib.hid rfl⟩
      obtain ⟨p3, hp3⟩ : ∃ x, Hid (G[k].o = x) := ⟨_, Lib.hid rfl⟩
      obtain ⟨p4, hp4⟩ : ∃ x, Hid (G[k].h = x) := ⟨_, Lib.hid rfl⟩
      rw [hp0.out, hp1.out, hp2.out, hp3.out, hp4.out] at hr hpe
      rw [hp0.out] at c0; rw [hp1.out] at c1; rw [hp2.out] at c2; rw [hp3.out] at c3; rw [hp4.out] at c4
      obtain ⟨PN, hPN⟩ : ∃ z, Hid (fol T n L G (k + 1) = z) := ⟨_, Lib.hid rfl⟩
      rw [hPN.out] at hpe hL5
      have HPE : Hid (ldR p0 p1 p2 n p3 p4 T (fol T n L G k) (stK p2 n) = PN) := Lib.hid hpe
      have HFK : Hid (loadsE T (fol T n L G k) = 0) := Lib.hid (HFIT.out k hk)
      have hlN : Hid (PN.length = T.length) := Lib.hid (by rw [← hPN.out]; exact (fit_of (HFIT.out (k + 1) (by omega))).len)
      have HL5 := Lib.hid (And.intro hq5 hL5)
      have HBW := Lib.hid BW
      clear PL hp0 hp1 hp2 hp3 hp4 hpe hq5 hL5 BW
      have HS : ∀ w', Below wr.heap.size wr w' → w'.cell? ⟨w.heap.size, 0, none⟩ = some (.slice A T.length cap) ∧ w'.cell? ⟨w.heap.size, 7, none⟩ = some (.int .i64 (n : Int)) ∧ w'.cell? ⟨pb, po + k * 5, none⟩ = some (.int .i64 p0) ∧ w'.cell? ⟨pb, po + k * 5 + 1, none⟩ = some (.int .i64 p1) ∧ w'.cell? ⟨pb, po + k * 5 + 2, none⟩ = some (.int .i64 p2) ∧ w'.cell? ⟨pb, po + k * 5 + 3, none⟩ = some (.int .i64 p3) ∧ w'.cell? ⟨pb, po + k * 5 + 4, none⟩ = some (.int .i64 p4) ∧ w'.cell? ⟨g5, k, none⟩ = some (.slice (some ⟨q5, qf5, none⟩) T.length qc5) := fun w' hb => ⟨(hb.cell (p := ⟨w.heap.size, 0, none⟩) ro).trans r0, (hb.cell (p := ⟨w.heap.size, 7, none⟩) ro).trans r7, (hb.cell (p := ⟨pb, po + k * 5, none⟩) plt).trans c0, (hb.cell (p := ⟨pb, po + k * 5 + 1, none⟩) plt).trans c1, (hb.cell (p := ⟨pb, po + k * 5 + 2, none⟩) plt).trans c2, (hb.cell (p := ⟨pb, po + k * 5 + 3, none⟩) plt).trans c3, (hb.cell (p := ⟨pb, po + k * 5 + 4, none⟩) plt).trans c4, (hb.cell (p := ⟨g5, k, none⟩) hg5).trans hrc⟩
      have HS' := Lib.hid HS
      clear HS r0 r7 c0 c1 c2 c3 c4 hrc
      go_upto_region 23 with (fail)
      go_cut [11, 12] from 104 to 151 (fun s11 s12 wx => ∃ q6 qh qe, s11 = .slice (some ⟨q6, qh, none⟩) T.length qe ∧ s12 = .int .i64 0 ∧ q6 < wx.heap.size ∧ LdAt wx q6 qh PN ∧ Below wr.heap.size wr wx)
      case first =>
        refine wp_region_held_drew (S := (fun w' => w'.cell? ⟨w.heap.size, 0, none⟩ = some (.slice A T.length cap) ∧ w'.cell? ⟨w.heap.size, 7, none⟩ = some (.int .i64 (n : Int)) ∧ w'.cell? ⟨pb, po + k * 5, none⟩ = some (.int .i64 p0) ∧ w'.cell? ⟨pb, po + k * 5 + 1, none⟩ = some (.int .i64 p1) ∧ w'.cell? ⟨pb, po + k * 5 + 2, none⟩ = some (.int .i64 p2) ∧ w'.cell? ⟨pb, po + k * 5 + 3, none⟩ = some (.int .i64 p3) ∧ w'.cell? ⟨pb, po + k * 5 + 4, none⟩ = some (.int .i64 p4) ∧ w'.cell? ⟨g5, k, none⟩ = some (.slice (some ⟨q5, qf5, none⟩) T.length qc5))) (by kernel_rfl) (by exact HS'.out _ (Below.refl wr.heap.size wr).drew) (fun hHeld => ?_)
        have hB0 : Below wr.heap.size wr wr.drew := (Below.refl wr.heap.size wr).drew
        generalize hdr : wr.drew = u0 at *
        clear hdr
        refine wpAnyH_take (i := 0) (oi := ⟨some 111, _, _, _, _, _⟩) (v := ?_) rfl (by kernel_rfl) (by kernel_rfl) (by kernel_rfl) (fun _ _ _ h => h) (Or.inl ⟨by kernel_rfl, ?_⟩) (by assumption) ?_
        rotate_left
        · (intro w hSw; (try dsimp only at hSw); go_simp; all_goals with_reducible rfl)
        try simp only [Act.put, List.setIfInBounds_toArray, List.set_cons_zero, List.set_cons_succ]
        refine wpAnyH_take (i := 1) (oi := ⟨some 112, _, _, _, _, _⟩) (v := ?_) rfl (by kernel_rfl) (by kernel_rfl) (by kernel_rfl) (fun _ _ _ h => h) (Or.inl ⟨by kernel_rfl, ?_⟩) (by assumption) ?_
        rotate_left
        · (intro w hSw; (try dsimp only at hSw); go_simp; all_goals with_reducible rfl)
        try simp only [Act.put, List.setIfInBounds_toArray, List.set_cons_zero, List.set_cons_succ]
        refine wpAnyH_take (i := 3) (oi := ⟨some 114, _, _, _, _, _⟩) (v := ?_) rfl (by kernel_rfl) (by kernel_rfl) (by kernel_rfl) (fun _ _ _ h => h) (Or.inl ⟨by kernel_rfl, ?_⟩) (by assumption) ?_
        rotate_left
        · (intro w hSw; (try dsimp only at hSw); go_simp; all_goals with_reducible rfl)
        try simp only [Act.put, List.setIfInBounds_toArray, List.set_cons_zero, List.set_cons_succ]
        refine wpAnyH_take (i := 5) (oi := ⟨some 116, _, _, _, _, _⟩) (v := ?_) rfl (by kernel_rfl) (by kernel_rfl) (by kernel_rfl) (fun _ _ _ h => h) (Or.inl ⟨by kernel_rfl, ?_⟩) (by assumption) ?_
        rotate_left
        · (intro w hSw; (try dsimp only at hSw); go_simp; all_goals with_reducible rfl)
        try simp only [Act.put, List.setIfInBounds_toArray, List.set_cons_zero, List.set_cons_succ]
        refine wpAnyH_take (i := 6) (oi := ⟨some 117, _, _, _, _, _⟩) (v := ?_) rfl (by kernel_rfl) (by kernel_rfl) (by kernel_rfl) (fun _ _ _ h => h) (Or.inl ⟨by kernel_rfl, ?_⟩) (by assumption) ?_
        rotate_left
        · (intro w hSw; (try dsimp only at hSw); go_simp; all_goals with_reducible rfl)
        try simp only [Act.put, List.setIfInBounds_toArray, List.set_cons_zero, List.set_cons_succ]
        refine wpAnyH_take (i := 7) (oi := ⟨some 118, _, _, _, _, _⟩) (v := ?_) rfl (by kernel_rfl) (by kernel_rfl) (by kernel_rfl) (fun _ _ _ h => h) (Or.inl ⟨by kernel_rfl, ?_⟩) (by assumption) ?_
        rotate_left
        · (intro w hSw; (try dsimp only at hSw); go_simp; all_goals with_reducible rfl)
        try simp only [Act.put, List.setIfInBounds_toArray, List.set_cons_zero, List.set_cons_succ]
        refine wpAnyH_take (i := 8) (oi := ⟨some 119, _, _, _, _, _⟩) (v := ?_) rfl (by kernel_rfl) (by kernel_rfl) (by kernel_rfl) (fun _ _ _ h => h) (Or.inl ⟨by kernel_rfl, ?_⟩) (by assumption) ?_
        rotate_left
        · (intro w hSw; (try dsimp only at hSw); go_simp; all_goals with_reducible rfl)
        try simp only [Act.put, List.setIfInBounds_toArray, List.set_cons_zero, List.set_cons_succ]
        refine wpAnyH_take (i := 9) (oi := ⟨some 120, _, _, _, _, _⟩) (v := ?_) rfl (by kernel_rfl) (by kernel_rfl) (by kernel_rfl) (fun _ _ _ h => h) (Or.inl ⟨by kernel_rfl, ?_⟩) (by assumption) ?_
        rotate_left
        · (intro w hSw; (try dsimp only at hSw); go_simp; all_goals with_reducible rfl)
        try simp only [Act.put, List.setIfInBounds_toArray, List.set_cons_zero, List.set_cons_succ]
        refine wpAnyH_take (i := 10) (oi := ⟨some 121, _, _, _, _, _⟩) (v := ?_) rfl (by kernel_rfl) (by kernel_rfl) (by kernel_rfl) (fun _ _ _ h => h) (Or.inl ⟨by kernel_rfl, ?_⟩) (by assumption) ?_
        rotate_left
        · (intro w hSw; (try dsimp only at hSw); go_simp; all_goals with_reducible rfl)
        try simp only [Act.put, List.setIfInBounds_toArray, List.set_cons_zero, List.set_cons_succ]
        refine wpAnyH_ready (rs := [2]) (by kernel_rfl) (by simp) ?_
        refine AllReadyH.cons rfl (fun K hK => ?_) (AllReadyH.nil)
        go_simp
        refine (lawTable_any T A cap _ (by omega) HNA.out (HT.out.below (HBW.out.trans (hB0.mono HBW.out.size)))).mono ?_
        rintro e u1 ⟨A2, cap2, rfl, hS, _, hb1⟩
        have HT1 := Lib.hid hS
        have hB1 : Below wr.heap.size wr u1 := hB0.trans (hb1.mono hB0.size)
        clear hS
        go_wp2_with fail
        refine hK.out _ _ (HS'.out _ hB1) (fun hHeld => ?_)
        clear hK K
        try simp only [Act.put, List.setIfInBounds_toArray, List.set_cons_zero, List.set_cons_succ]
        refine wpAnyH_ready (rs := [4]) (by kernel_rfl) (by simp) ?_
        refine AllReadyH.cons rfl (fun K hK => ?_) (AllReadyH.nil)
        go_simp
        refine (lawLoads_n (fol T n L G k) mk An cn _ HMK.out.1 (by omega) HMK.out.2 (HN.out.below hB1)).mono ?_
        rintro e u2 ⟨A3, cap3, rfl, hS, hb2⟩
        have HL2 := Lib.hid hS
        have HT2 := Lib.hid (HT1.out.below hb2)
        have hB2 : Below wr.heap.size wr u2 := hB1.trans (hb2.mono hB1.size)
        clear hS
        go_wp2_with fail
        refine hK.out _ _ (HS'.out _ hB2) (fun hHeld => ?_)
        clear hK K
        try simp only [Act.put, List.setIfInBounds_toArray, List.set_cons_zero, List.set_cons_succ]
        refine wpAnyH_ready (rs := [11]) (by kernel_rfl) (by simp) ?_
        refine AllReadyH.cons rfl (fun K hK => ?_) (AllReadyH.nil)
        go_simp
        refine (Loaded_n T (fol T n L G k) mk A2 A3 cap2 cap3 p0 p1 p2 p3 p4 n PN _ HMK.out.1 HFK hr hn6 HPE HT2.out HL2.out).mono ?_
        rintro e u3 ⟨q6, qh, qe, rfl, hq1, hq2, hLL, hb3⟩
        have HLL := Lib.hid (And.intro hq2 hLL)
        clear hLL hq1 hq2
        have hB3 : Below wr.heap.size wr u3 := hB2.trans (hb3.mono hB2.size)
        go_wp2_with fail
        refine hK.out _ _ (HS'.out _ hB3) (fun hHeld => ?_)
        clear hK K
        try simp only [Act.put, List.setIfInBounds_toArray, List.set_cons_zero, List.set_cons_succ]
        refine wpAnyH_take (i := 12) (oi := ⟨some 110, _, _, _, _, _⟩) (v := ?_) rfl (by kernel_rfl) (by kernel_rfl) (by kernel_rfl) (fun _ _ _ h => h) (Or.inl ⟨by kernel_rfl, ?_⟩) (by assumption) ?_
        rotate_left
        · (intro w hSw; (try dsimp only at hSw); go_simp; all_goals with_reducible rfl)
        try simp only [Act.put, List.setIfInBounds_toArray, List.set_cons_zero, List.set_cons_succ]
        refine wpAnyH_take (i := 13) (oi := ⟨some 123, _, _, _, _, _⟩) (v := ?_) rfl (by kernel_rfl) (by kernel_rfl) (by kernel_rfl) (fun _ _ _ h => h) (Or.inl ⟨by kernel_rfl, ?_⟩) (by assumption) ?_
        rotate_left
        · (intro w hSw; (try dsimp only at hSw); go_simp; all_goals with_reducible rfl)
        try simp only [Act.put, List.setIfInBounds_toArray, List.set_cons_zero, List.set_cons_succ]
        refine wpAnyH_take (i := 14) (oi := ⟨some 124, _, _, _, _, _⟩) (v := ?_) rfl (by kernel_rfl) (by kernel_rfl) (by kernel_rfl) (fun _ _ _ h => h) (Or.inl ⟨by kernel_rfl, ?_⟩) (by assumption) ?_
        rotate_left
        · (intro w hSw; (try dsimp only at hSw); go_simp; all_goals with_reducible rfl)
        try simp only [Act.put, List.setIfInBounds_toArray, List.set_cons_zero, List.set_cons_succ]
        refine wpAnyH_take (i := 15) (oi := ⟨some 11, _, _, _, _, _⟩) (v := ?_) rfl (by kernel_rfl) (by kernel_rfl) (by kernel_rfl) (fun _ _ _ h => h) (Or.inl ⟨by kernel_rfl, ?_⟩) (by assumption) ?_
        rotate_left
        · (intro w hSw; (try dsimp only at hSw); go_simp; all_goals with_reducible rfl)
        try simp only [Act.put, List.setIfInBounds_toArray, List.set_cons_zero, List.set_cons_succ]
        refine wpAnyH_take (i := 16) (oi := ⟨some 12, _, _, _, _, _⟩) (v := ?_) rfl (by kernel_rfl) (by kernel_rfl) (by kernel_rfl) (fun _ _ _ h => h) (Or.inl ⟨by kernel_rfl, ?_⟩) (by assumption) ?_
        rotate_left
        · (intro w hSw; (try dsimp only at hSw); go_simp; all_goals with_reducible rfl)
        try simp only [Act.put, List.setIfInBounds_toArray, List.set_cons_zero, List.set_cons_succ]
        refine wpAnyH_done (by kernel_rfl) ?_ _
        go_wp2_with fail
        go_meet
        exact ⟨q6, qh, qe, rfl, rfl, HLL.out.1, HLL.out.2, hB3⟩
      case rest =>
      obtain ⟨q6, qh, qe, rfl, rfl, hql, hLL, hbc⟩ := hcut
      obtain ⟨w7, hw7⟩ : ∃ V, V = wc := ⟨_, rfl⟩
      rw [← hw7] at hbc hLL hql
      rw [← hw7]
      have HP7 := Lib.hid (SlLd.of hql hLL)
      have HQ7 := Lib.hid (SlLd.of HL5.out.1 HL5.out.2)
      have hbw := Lib.hid hbc
      clear hw7 hLL hql hbc
      go_upto_region 24 with (fail)
      refine wp_region_held_drew (S := (fun w' => w'.cell? ⟨w.heap.size, 0, none⟩ = some (.slice A T.length cap) ∧ w'.cell? ⟨w.heap.size, 7, none⟩ = some (.int .i64 (n : Int)) ∧ w'.cell? ⟨pb, po + k * 5, none⟩ = some (.int .i64 p0) ∧ w'.cell? ⟨pb, po + k * 5 + 1, none⟩ = some (.int .i64 p1) ∧ w'.cell? ⟨pb, po + k * 5 + 2, none⟩ = some (.int .i64 p2) ∧ w'.cell? ⟨pb, po + k * 5 + 3, none⟩ = some (.int .i64 p3) ∧ w'.cell? ⟨pb, po + k * 5 + 4, none⟩ = some (.int .i64 p4) ∧ w'.cell? ⟨g5, k, none⟩ = some (.slice (some ⟨q5, qf5, none⟩) T.length qc5))) (by kernel_rfl) (by exact HS'.out _ (hbw.out.drew)) (fun hHeld => ?_)
      have hB0 : Below wr.heap.size wr w7.drew := hbw.out.drew
      have hC0 : Below w7.heap.size w7 w7.drew := (Below.refl w7.heap.size w7).drew
      generalize hdr : w7.drew = u0 at *
      clear hdr
      refine wpAnyH_take (i := 0) (oi := ⟨some 125, _, _, _, _, _⟩) (v := ?_) rfl (by kernel_rfl) (by kernel_rfl) (by kernel_rfl) (fun _ _ _ h => h) (Or.inl ⟨by kernel_rfl, ?_⟩) (by assumption) ?_
      rotate_left
      · (intro w hSw; (try dsimp only at hSw); go_simp; all_goals with_reducible rfl)
      try simp only [Act.put, List.setIfInBounds_toArray, List.set_cons_zero, List.set_cons_succ]
      refine wpAnyH_take (i := 1) (oi := ⟨some 126, _, _, _, _, _⟩) (v := ?_) rfl (by kernel_rfl) (by kernel_rfl) (by kernel_rfl) (fun _ _ _ h => h) (Or.inl ⟨by kernel_rfl, ?_⟩) (by assumption) ?_
      rotate_left
      · (intro w hSw; (try dsimp only at hSw); go_simp; all_goals with_reducible rfl)
      try simp only [Act.put, List.setIfInBounds_toArray, List.set_cons_zero, List.set_cons_succ]
      refine wpAnyH_take (i := 2) (oi := ⟨some 127, _, _, _, _, _⟩) (v := ?_) rfl (by kernel_rfl) (by kernel_rfl) (by kernel_rfl) (fun _ _ _ h => h) (Or.inl ⟨by kernel_rfl, ?_⟩) (by assumption) ?_
      rotate_left
      · (intro w hSw; (try dsimp only at hSw); go_simp; all_goals with_reducible rfl)
      try simp only [Act.put, List.setIfInBounds_toArray, List.set_cons_zero, List.set_cons_succ]
      refine wpAnyH_take (i := 3) (oi := ⟨some 128, _, _, _, _, _⟩) (v := ?_) rfl (by kernel_rfl) (by kernel_rfl) (by kernel_rfl) (fun _ _ _ h => h) (Or.inl ⟨by kernel_rfl, ?_⟩) (by assumption) ?_
      rotate_left
      · (intro w hSw; (try dsimp only at hSw); go_simp; all_goals with_reducible rfl)
      try simp only [Act.put, List.setIfInBounds_toArray, List.set_cons_zero, List.set_cons_succ]
      refine wpAnyH_take (i := 4) (oi := ⟨some 129, _, _, _, _, _⟩) (v := ?_) rfl (by kernel_rfl) (by kernel_rfl) (by kernel_rfl) (fun _ _ _ h => h) (Or.inl ⟨by kernel_rfl, ?_⟩) (by assumption) ?_
      rotate_left
      · (intro w hSw; (try dsimp only at hSw); go_simp; all_goals with_reducible rfl)
      try simp only [Act.put, List.setIfInBounds_toArray, List.set_cons_zero, List.set_cons_succ]
      refine wpAnyH_take (i := 5) (oi := ⟨some 130, _, _, _, _, _⟩) (v := ?_) rfl (by kernel_rfl) (by kernel_rfl) (by kernel_rfl) (fun _ _ _ h => h) (Or.inl ⟨by kernel_rfl, ?_⟩) (by assumption) ?_
      rotate_left
      · (intro w hSw; (try dsimp only at hSw); go_simp; all_goals with_reducible rfl)
      try simp only [Act.put, List.setIfInBounds_toArray, List.set_cons_zero, List.set_cons_succ]
      refine wpAnyH_take (i := 6) (oi := ⟨some 131, _, _, _, _, _⟩) (v := ?_) rfl (by kernel_rfl) (by kernel_rfl) (by kernel_rfl) (fun _ _ _ h => h) (Or.inl ⟨by kernel_rfl, ?_⟩) (by assumption) ?_
      rotate_left
      · (intro w hSw; (try dsimp only at hSw); go_simp; all_goals with_reducible rfl)
      try simp only [Act.put, List.setIfInBounds_toArray, List.set_cons_zero, List.set_cons_succ]
      refine wpAnyH_take (i := 7) (oi := ⟨some 132, _, _, _, _, _⟩) (v := ?_) rfl (by kernel_rfl) (by kernel_rfl) (by kernel_rfl) (fun _ _ _ h => h) (Or.inl ⟨by kernel_rfl, ?_⟩) (by assumption) ?_
      rotate_left
      · (intro w hSw; (try dsimp only at hSw); go_simp; all_goals with_reducible rfl)
      try simp only [Act.put, List.setIfInBounds_toArray, List.set_cons_zero, List.set_cons_succ]
      refine wpAnyH_ready (rs := [8]) (by kernel_rfl) (by simp) ?_
      refine AllReadyH.cons rfl (fun K hK => ?_) (AllReadyH.nil)
      go_simp
      refine (refSame_g PN T.length (some ⟨q6, qh, none⟩) (some ⟨q5, qf5, none⟩) qe qc5 _ hlN.out (by omega) (HP7.out.below hC0) ((HQ7.out.below hB0))).mono ?_
      rintro e u1 ⟨rfl, hb1⟩
      have hB1 : Below wr.heap.size wr u1 := hB0.trans (hb1.mono hB0.size)
      have hC1 : Below w7.heap.size w7 u1 := hC0.trans (hb1.mono hC0.size)
      go_wp2_with fail
      refine hK.out _ _ (HS'.out _ hB1) (fun hHeld => ?_)
      clear hK K
      try simp only [Act.put, List.setIfInBounds_toArray, List.set_cons_zero, List.set_cons_succ]
      refine wpAnyH_take (i := 9) (oi := ⟨some 134, _, _, _, _, _⟩) (v := ?_) rfl (by kernel_rfl) (by kernel_rfl) (by kernel_rfl) (fun _ _ _ h => h) (Or.inl ⟨by kernel_rfl, ?_⟩) (by assumption) ?_
      rotate_left
      · (intro w hSw; (try dsimp only at hSw); go_simp; all_goals with_reducible rfl)
      try simp only [Act.put, List.setIfInBounds_toArray, List.set_cons_zero, List.set_cons_succ]
      refine wpAnyH_take (i := 10) (oi := ⟨some 135, _, _, _, _, _⟩) (v := ?_) rfl (by kernel_rfl) (by kernel_rfl) (by kernel_rfl) (fun _ _ _ h => h) (Or.inl ⟨by kernel_rfl, ?_⟩) (by assumption) ?_
      rotate_left
      · (intro w hSw; (try dsimp only at hSw); go_simp; all_goals with_reducible rfl)
      try simp only [Act.put, List.setIfInBounds_toArray, List.set_cons_zero, List.set_cons_succ]
      refine wpAnyH_take (i := 11) (oi := ⟨some 136, _, _, _, _, _⟩) (v := ?_) rfl (by kernel_rfl) (by kernel_rfl) (by kernel_rfl) (fun _ _ _ h => h) (Or.inl ⟨by kernel_rfl, ?_⟩) (by assumption) ?_
      rotate_left
      · (intro w hSw; (try dsimp only at hSw); go_simp; all_goals with_reducible rfl)
      try simp only [Act.put, List.setIfInBounds_toArray, List.set_cons_zero, List.set_cons_succ]
      refine wpAnyH_take (i := 12) (oi := ⟨some 137, _, _, _, _, _⟩) (v := ?_) rfl (by kernel_rfl) (by kernel_rfl) (by kernel_rfl) (fun _ _ _ h => h) (Or.inl ⟨by kernel_rfl, ?_⟩) (by assumption) ?_
      rotate_left
      · (intro w hSw; (try dsimp only at hSw); go_simp; all_goals with_reducible rfl)
      try simp only [Act.put, List.setIfInBounds_toArray, List.set_cons_zero, List.set_cons_succ]
      refine wpAnyH_take (i := 13) (oi := ⟨some 138, _, _, _, _, _⟩) (v := ?_) rfl (by kernel_rfl) (by kernel_rfl) (by kernel_rfl) (fun _ _ _ h => h) (Or.inl ⟨by kernel_rfl, ?_⟩) (by assumption) ?_
      rotate_left
      · (intro w hSw; (try dsimp only at hSw); go_simp; all_goals with_reducible rfl)
      try simp only [Act.put, List.setIfInBounds_toArray, List.set_cons_zero, List.set_cons_succ]
      refine wpAnyH_take (i := 14) (oi := ⟨some 139, _, _, _, _, _⟩) (v := ?_) rfl (by kernel_rfl) (by kernel_rfl) (by kernel_rfl) (fun _ _ _ h => h) (Or.inl ⟨by kernel_rfl, ?_⟩) (by assumption) ?_
      rotate_left
      · (intro w hSw; (try dsimp only at hSw); go_simp; all_goals with_reducible rfl)
      try simp only [Act.put, List.setIfInBounds_toArray, List.set_cons_zero, List.set_cons_succ]
      refine wpAnyH_take (i := 15) (oi := ⟨some 140, _, _, _, _, _⟩) (v := ?_) rfl (by kernel_rfl) (by kernel_rfl) (by kernel_rfl) (fun _ _ _ h => h) (Or.inl ⟨by kernel_rfl, ?_⟩) (by assumption) ?_
      rotate_left
      · (intro w hSw; (try dsimp only at hSw); go_simp; all_goals with_reducible rfl)
      try simp only [Act.put, List.setIfInBounds_toArray, List.set_cons_zero, List.set_cons_succ]
      refine wpAnyH_take (i := 16) (oi := ⟨some 141, _, _, _, _, _⟩) (v := ?_) rfl (by kernel_rfl) (by kernel_rfl) (by kernel_rfl) (fun _ _ _ h => h) (Or.inl ⟨by kernel_rfl, ?_⟩) (by assumption) ?_
      rotate_left
      · (intro w hSw; (try dsimp only at hSw); go_simp; all_goals with_reducible rfl)
      try simp only [Act.put, List.setIfInBounds_toArray, List.set_cons_zero, List.set_cons_succ]
      refine wpAnyH_take (i := 17) (oi := ⟨some 142, _, _, _, _, _⟩) (v := ?_) rfl (by kernel_rfl) (by kernel_rfl) (by kernel_rfl) (fun _ _ _ h => h) (Or.inl ⟨by kernel_rfl, ?_⟩) (by assumption) ?_
      rotate_left
      · (intro w hSw; (try dsimp only at hSw); go_simp; all_goals with_reducible rfl)
      try simp only [Act.put, List.setIfInBounds_toArray, List.set_cons_zero, List.set_cons_succ]
      refine wpAnyH_take (i := 18) (oi := ⟨some 143, _, _, _, _, _⟩) (v := ?_) rfl (by kernel_rfl) (by kernel_rfl) (by kernel_rfl) (fun _ _ _ h => h) (Or.inl ⟨by kernel_rfl, ?_⟩) (by assumption) ?_
      rotate_left
      · (intro w hSw; (try dsimp only at hSw); go_simp; all_goals with_reducible rfl)
      try simp only [Act.put, List.setIfInBounds_toArray, List.set_cons_zero, List.set_cons_succ]
      refine wpAnyH_take (i := 19) (oi := ⟨some 144, _, _, _, _, _⟩) (v := ?_) rfl (by kernel_rfl) (by kernel_rfl) (by kernel_rfl) (fun _ _ _ h => h) (Or.inl ⟨by kernel_rfl, ?_⟩) (by assumption) ?_
      rotate_left
      · (intro w hSw; (try dsimp only at hSw); go_simp; all_goals with_reducible rfl)
      try simp only [Act.put, List.setIfInBounds_toArray, List.set_cons_zero, List.set_cons_succ]
      refine wpAnyH_take (i := 20) (oi := ⟨some 145, _, _, _, _, _⟩) (v := ?_) rfl (by kernel_rfl) (by kernel_rfl) (by kernel_rfl) (fun _ _ _ h => h) (Or.inl ⟨by kernel_rfl, ?_⟩) (by assumption) ?_
      rotate_left
      · (intro w hSw; (try dsimp only at hSw); go_simp; all_goals with_reducible rfl)
      try simp only [Act.put, List.setIfInBounds_toArray, List.set_cons_zero, List.set_cons_succ]
      refine wpAnyH_take (i := 21) (oi := ⟨some 146, _, _, _, _, _⟩) (v := ?_) rfl (by kernel_rfl) (by kernel_rfl) (by kernel_rfl) (fun _ _ _ h => h) (Or.inl ⟨by kernel_rfl, ?_⟩) (by assumption) ?_
      rotate_left
      · (intro w hSw; (try dsimp only at hSw); go_simp; all_goals with_reducible rfl)
      try simp only [Act.put, List.setIfInBounds_toArray, List.set_cons_zero, List.set_cons_succ]
      refine wpAnyH_ready (rs := [22]) (by kernel_rfl) (by simp) ?_
      refine AllReadyH.cons rfl (fun K hK => ?_) (AllReadyH.nil)
      go_simp
      refine (refLoaded_n T (fol T n L G k) mk A An cap cn p0 p1 p2 p3 p4 n PN _ HMK.out.1 HFK hr hn6 HPE (HT.out.below (HBW.out.trans (hB1.mono HBW.out.size))) (HN.out.below hB1)).mono ?_
      rintro e u2 ⟨A7, cap7, rfl, hS, hb2⟩
      have HS7 := Lib.hid hS
      have hB2 : Below wr.heap.size wr u2 := hB1.trans (hb2.mono hB1.size)
      have hC2 : Below w7.heap.size w7 u2 := hC1.trans (hb2.mono hC1.size)
      clear hS
      go_wp2_with fail
      refine hK.out _ _ (HS'.out _ hB2) (fun hHeld => ?_)
      clear hK K
      try simp only [Act.put, List.setIfInBounds_toArray, List.set_cons_zero, List.set_cons_succ]
      refine wpAnyH_ready (rs := [23]) (by kernel_rfl) (by simp) ?_
      refine AllReadyH.cons rfl (fun K hK => ?_) (AllReadyH.nil)
      go_simp
      refine (refSame_g PN T.length (some ⟨q6, qh, none⟩) A7 qe cap7 _ hlN.out (by omega) (HP7.out.below hC2) HS7.out).mono ?_
      rintro e u3 ⟨rfl, hb3⟩
      have hB3 : Below wr.heap.size wr u3 := hB2.trans (hb3.mono hB2.size)
      have hC3 : Below w7.heap.size w7 u3 := hC2.trans (hb3.mono hC2.size)
      go_wp2_with fail
      refine hK.out _ _ (HS'.out _ hB3) (fun hHeld => ?_)
      clear hK K
      try simp only [Act.put, List.setIfInBounds_toArray, List.set_cons_zero, List.set_cons_succ]
      refine wpAnyH_take (i := 24) (oi := ⟨some 149, _, _, _, _, _⟩) (v := ?_) rfl (by kernel_rfl) (by kernel_rfl) (by kernel_rfl) (fun _ _ _ h => h) (Or.inl ⟨by kernel_rfl, ?_⟩) (by assumption) ?_
      rotate_left
      · (intro w hSw; (try dsimp only at hSw); go_simp; all_goals with_reducible rfl)
      try simp only [Act.put, List.setIfInBounds_toArray, List.set_cons_zero, List.set_cons_succ]
      refine wpAnyH_take (i := 25) (oi := ⟨some 150, _, _, _, _, _⟩) (v := ?_) rfl (by kernel_rfl) (by kernel_rfl) (by kernel_rfl) (fun _ _ _ h => h) (Or.inl ⟨by kernel_rfl, ?_⟩) (by assumption) ?_
      rotate_left
      · (intro w hSw; (try dsimp only at hSw); go_simp; all_goals with_reducible rfl)
      try simp only [Act.put, List.setIfInBounds_toArray, List.set_cons_zero, List.set_cons_succ]
      refine wpAnyH_done (by kernel_rfl) ?_ _
      have hB5 : Below w5.heap.size w5 u3 := hB.trans (hB3.mono hB.size)
      have HN2 : Hid (SlLd u3 (some ⟨q6, qh, none⟩) (fol T n L G (k + 1))) := Lib.hid (by rw [hPN.out]; exact HP7.out.below hC3)
      have HM2 : Hid ((fol T n L G (k + 1)).length = T.length ∧ ((some ⟨q6, qh, none⟩ : Option Addr) = none → qe = 0)) := Lib.hid ⟨by rw [hPN.out]; exact hlN.out, by intro hc; cases hc⟩
      have hT19 : T.length ≤ 19 := by omega
      clear HS' hHeld hB0 hB1 hB2 hB3 hC0 hC1 hC2 hC3 hb1 hb2 hb3 HN HMK HP7 HQ7 HS7 HL5 hbw HPE HFK hB HBW
      go_wp2
      go_roundw
      case rel => exact ⟨k + 1, T.length, some ⟨q6, qh, none⟩, qe, by go_num, by omega, rfl, hT19, HM2, HN2, hB5⟩
      case measure => (simp [intOf]) <;> omega
    · have hkl2 : ¬ (k : Int) < G.length := by omega
      have BW : Below w.heap.size w wr := HE5.out.2.2.1.trans (hB.mono HE5.out.2.2.1.size)
      clear hkl
      go_wp2
      go_ret
      exact ⟨by first | rfl | simp, BW⟩
theorem tissueFollows_any (T : List Cm) (L : List Ld) (A B : Option Addr) (cap cap' : Nat) (fr tz se o hh fi : Int) (G : List Tl) (C : Option Addr) (capg : Nat) (w : World) (hl : T.length ≤ 9223372036854775807) (hl' : L.length ≤ 9223372036854775807) (hA : A = none → cap = 0) (hB : B = none → cap' = 0) (hT : SlCm w A T) (hL : SlLd w B L) (hlG : G.length ≤ 9223372036854775807) (hC : C = none → capg = 0) (hG : SlTl w C G) :
    Calls Try.prog 8 #[.agg #[.slice A T.length cap, .slice B L.length cap', .int .i64 fr, .int .i64 tz, .int .i64 se, .int .i64 o, .int .i64 hh, .int .i64 fi], .slice C G.length capg] w fun e w' => e = .returned (.bool true) ∧ Below w.heap.size w w' := by
  cases hli : (fewB T.length && decide (L.length ≤ 19)) with
  | false => exact tissueFollows_dark T L A B cap cap' fr tz se o hh fi G C capg w hl hl' hA hB hT hL hlG hC hG hli
  | true =>
    by_cases h5 : G.length ≤ 5
    · by_cases hz : firE [loadsE T L, clE G, rngE fi 0 6] = 0
      · exact tissueFollows_good T L A B cap cap' fr tz se o hh fi G C capg w hl hl' hA hB hT hL hlG hC hG hli h5 hz
      · exact tissueFollows_bad T L A B cap cap' fr tz se o hh fi G C capg w hl hl' hA hB hT hL hlG hC hG hli (Or.inl h5) hz
    · by_cases h2 : G.length ≤ 200
      · exact tissueFollows_mid T L A B cap cap' fr tz se o hh fi G C capg w hl hl' hA hB hT hL hlG hC hG hli (by omega) h2
      · by_cases h3 : G.length ≤ 202
        · refine tissueFollows_bad T L A B cap cap' fr tz se o hh fi G C capg w hl hl' hA hB hT hL hlG hC hG hli (Or.inr ⟨by omega, h3⟩) ?_
          intro hz
          obtain ⟨_, b, _⟩ := firE3_z hz
          unfold clE at b
          rw [if_pos (by omega)] at b
          cases b
        · exact tissueFollows_big T L A B cap cap' fr tz se o hh fi G C capg w hl hl' hA hB hT hL hlG hC hG hli (by omega)
end Go.Proofs.Ytchfhhmmjioajaa
