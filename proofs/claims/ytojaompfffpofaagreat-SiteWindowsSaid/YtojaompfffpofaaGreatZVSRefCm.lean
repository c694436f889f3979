import Derived.Test.YtojaompfffpofaaGreatSStep
import Derived.Test.YtojaompfffpofaaGreatZVSPer
import Derived.Test.YtojaompfffpofaaGreatZVNums
import Derived.BigQuiet
import Derived.Outline
namespace Go.Proofs.YtojaompfffpofaaGreat
open Go.ChangeShapes Go.WideShapes Go.ChangeAt Go.RowKit
set_option linter.unusedVariables false
set_option linter.unusedSimpArgs false
attribute [local go_sem ↓] Go.wp_at_zero Go.wp_at_succ
theorem bWthn_is (n a b : Int) (p : Bool) (w : World) (hp : Hid (inB n a b = p)) :
    Calls Tryz.prog 23 #[.int .i64 n, .int .i64 a, .int .i64 b] w fun e w' => e = .returned (.bool p) ∧ w = w' := by
  rw [← hp.out]; exact baseWithin_any n a b w
set_option maxRecDepth 100000 in
set_option maxHeartbeats 2000000 in
theorem refIn_is (L : List Rg) (A : Option Addr) (n cap : Nat) (m : Int) (p : Bool) (w : World) (hn : Hid (n = L.length)) (n1 : n ≤ 1000000) (HA : Hid (SlRows rgV 2 w A L)) (hp : Hid (inW L m = p)) :
    Calls Tryz.prog 59 #[.slice A n cap, .int .i64 m] w fun e w' => e = .returned (.bool p) ∧ Below w.heap.size w w' := by
  have HX : Hid (∀ w' : World, Below w.heap.size w w' → SlRows rgV 2 w' A L) := Lib.hid fun w' h => HA.out.below h
  clear HA
  go_enter Tryz.func59, Tryz.ntmps59
  go_wp2
  go_loopw [5] (fun i wr => ∃ j : Nat, i = .int .i64 j ∧ j ≤ n ∧ Hid (∀ k, k < j → inB m (L.getD k default).lo (L.getD k default).hi = false) ∧ Below w.heap.size w wr) (fun i _ => n - (intOf i).toNat)
  case atStart => exact ⟨0, rfl, by omega, Lib.hid (fun k hk => by omega), (by (repeat (first | (with_reducible refine Below.drew ?_) | (with_reducible refine below_drewN ?_ _) | (with_reducible refine Below.alloc ?_ (by first | omega | (simp; done) | (simp; omega) | (simp at *; omega)) _) | (with_reducible refine Below.setCell ?_ (by first | omega | (simp; done) | (simp; omega) | (simp at *; omega)) _) | (with_reducible exact Below.refl _ _) | (with_reducible assumption) | (with_reducible refine Below.trans ?_ (Below.mono (by assumption) (by first | omega | (simp; done) | (simp; omega) | (simp at *; omega)))))))⟩
  case round =>
    obtain ⟨j, rfl, hj, hz, hB⟩ := hrel
    have hsz := hB.size
    by_cases hjn : j < n
    · have hjl : j < L.length := by have := hn.out; omega
      have jn : (j : Int) < (n : Int) := by omega
      rcases HX.out _ hB with h0 | ⟨b, off, rfl, hlt, hRa⟩
      · rw [h0] at hjl; simp at hjl
      obtain ⟨e0, e1⟩ := rg_at hRa hjl
      obtain ⟨⟨ul, uh⟩, hu⟩ : ∃ u, Hid (L.getD j default = u) := ⟨_, Lib.hid rfl⟩
      rw [hu.out] at e0 e1
      dsimp only at e0 e1
      obtain ⟨q, hw⟩ : ∃ q, Hid (inB m ul uh = q) := ⟨_, Lib.hid rfl⟩
      clear hRa
      cases q with
      | true =>
        have hpt : Hid (p = true) := Lib.hid (by rw [← hp.out]; exact inW_at hjl (by rw [hu.out]; exact hw.out))
        clear hz hu
        go_upto_region 4 with (fail)
        refine wp_region_held_drew (S := (fun w' => w'.cell? ⟨b, off + j * 2, none⟩ = some (.int .i64 ul) ∧ w'.cell? ⟨b, off + j * 2 + 1, none⟩ = some (.int .i64 uh))) (by kernel_rfl) (by simp [go_sem, World.cell?_alloc_past, *]) (fun hHeld => ?_)
        refine tkH 0 ⟨some 12, _, _, _, _, _⟩ ?_ rfl ?_ (by assumption) ?_
        rotate_left
        · (intro w hSw; (try dsimp only at hSw); go_simp; all_goals with_reducible rfl)
        try simp only [Act.put, sA, sB, sC]
        refine tkH 1 ⟨some 13, _, _, _, _, _⟩ ?_ rfl ?_ (by assumption) ?_
        rotate_left
        · (intro w hSw; (try dsimp only at hSw); go_simp; all_goals with_reducible rfl)
        try simp only [Act.put, sA, sB, sC]
        refine tkH 2 ⟨some 14, _, _, _, _, _⟩ ?_ rfl ?_ (by assumption) ?_
        rotate_left
        · (intro w hSw; (try dsimp only at hSw); go_simp; all_goals with_reducible rfl)
        try simp only [Act.put, sA, sB, sC]
        refine tkH 3 ⟨some 15, _, _, _, _, _⟩ ?_ rfl ?_ (by assumption) ?_
        rotate_left
        · (intro w hSw; (try dsimp only at hSw); go_simp; all_goals with_reducible rfl)
        try simp only [Act.put, sA, sB, sC]
        refine tkH 4 ⟨some 16, _, _, _, _, _⟩ ?_ rfl ?_ (by assumption) ?_
        rotate_left
        · (intro w hSw; (try dsimp only at hSw); go_simp; all_goals with_reducible rfl)
        try simp only [Act.put, sA, sB, sC]
        refine tkH 5 ⟨some 17, _, _, _, _, _⟩ ?_ rfl ?_ (by assumption) ?_
        rotate_left
        · (intro w hSw; (try dsimp only at hSw); go_simp; all_goals with_reducible rfl)
        try simp only [Act.put, sA, sB, sC]
        refine tkH 6 ⟨some 18, _, _, _, _, _⟩ ?_ rfl ?_ (by assumption) ?_
        rotate_left
        · (intro w hSw; (try dsimp only at hSw); go_simp; all_goals with_reducible rfl)
        try simp only [Act.put, sA, sB, sC]
        refine tkH 7 ⟨some 19, _, _, _, _, _⟩ ?_ rfl ?_ (by assumption) ?_
        rotate_left
        · (intro w hSw; (try dsimp only at hSw); go_simp; all_goals with_reducible rfl)
        try simp only [Act.put, sA, sB, sC]
        refine tkH 8 ⟨some 20, _, _, _, _, _⟩ ?_ rfl ?_ (by assumption) ?_
        rotate_left
        · (intro w hSw; (try dsimp only at hSw); go_simp; all_goals with_reducible rfl)
        try simp only [Act.put, sA, sB, sC]
        refine tkH 9 ⟨some 21, _, _, _, _, _⟩ ?_ rfl ?_ (by assumption) ?_
        rotate_left
        · (intro w hSw; (try dsimp only at hSw); go_simp; all_goals with_reducible rfl)
        try simp only [Act.put, sA, sB, sC]
        refine tkH 10 ⟨some 22, _, _, _, _, _⟩ ?_ rfl ?_ (by assumption) ?_
        rotate_left
        · (intro w hSw; (try dsimp only at hSw); go_simp; all_goals with_reducible rfl)
        try simp only [Act.put, sA, sB, sC]
        refine wpAnyH_ready (rs := [11]) (by kernel_rfl) (by simp) ?_
        refine AllReadyH.cons rfl (fun K hK => ?_) AllReadyH.nil
        go_simp
        refine (bWthn_is _ _ _ _ _ hw).mono ?_
        rintro e w' ⟨rfl, rfl⟩
        go_wp2_with fail
        refine hK.out _ _ (by simp [go_sem, World.cell?_alloc_past, *]) (fun hHeld => ?_)
        clear hK K
        try simp only [Act.put, sA, sB, sC]
        refine wpAnyH_done (by kernel_rfl) ?_ _
        go_wp2
        go_ret
        exact ⟨by rw [hpt.out]; rfl, (by (repeat (first | (with_reducible refine Below.drew ?_) | (with_reducible refine below_drewN ?_ _) | (with_reducible refine Below.alloc ?_ (by first | omega | (simp; done) | (simp; omega) | (simp at *; omega)) _) | (with_reducible refine Below.setCell ?_ (by first | omega | (simp; done) | (simp; omega) | (simp at *; omega)) _) | (with_reducible exact Below.refl _ _) | (with_reducible assumption) | (with_reducible refine Below.trans ?_ (Below.mono (by assumption) (by first | omega | (simp; done) | (simp; omega) | (simp at *; omega)))))))⟩
      | false =>
        have hz2 : Hid (∀ k, k < j + 1 → inB m (L.getD k default).lo (L.getD k default).hi = false) := Lib.hid fun k hk => by
          by_cases e : k = j
          · subst e; rw [hu.out]; exact hw.out
          · exact hz.out k (by omega)
        clear hz hu
        go_upto_region 4 with (fail)
        refine wp_region_held_drew (S := (fun w' => w'.cell? ⟨b, off + j * 2, none⟩ = some (.int .i64 ul) ∧ w'.cell? ⟨b, off + j * 2 + 1, none⟩ = some (.int .i64 uh))) (by kernel_rfl) (by simp [go_sem, World.cell?_alloc_past, *]) (fun hHeld => ?_)
        refine tkH 0 ⟨some 12, _, _, _, _, _⟩ ?_ rfl ?_ (by assumption) ?_
        rotate_left
        · (intro w hSw; (try dsimp only at hSw); go_simp; all_goals with_reducible rfl)
        try simp only [Act.put, sA, sB, sC]
        refine tkH 1 ⟨some 13, _, _, _, _, _⟩ ?_ rfl ?_ (by assumption) ?_
        rotate_left
        · (intro w hSw; (try dsimp only at hSw); go_simp; all_goals with_reducible rfl)
        try simp only [Act.put, sA, sB, sC]
        refine tkH 2 ⟨some 14, _, _, _, _, _⟩ ?_ rfl ?_ (by assumption) ?_
        rotate_left
        · (intro w hSw; (try dsimp only at hSw); go_simp; all_goals with_reducible rfl)
        try simp only [Act.put, sA, sB, sC]
        refine tkH 3 ⟨some 15, _, _, _, _, _⟩ ?_ rfl ?_ (by assumption) ?_
        rotate_left
        · (intro w hSw; (try dsimp only at hSw); go_simp; all_goals with_reducible rfl)
        try simp only [Act.put, sA, sB, sC]
        refine tkH 4 ⟨some 16, _, _, _, _, _⟩ ?_ rfl ?_ (by assumption) ?_
        rotate_left
        · (intro w hSw; (try dsimp only at hSw); go_simp; all_goals with_reducible rfl)
        try simp only [Act.put, sA, sB, sC]
        refine tkH 5 ⟨some 17, _, _, _, _, _⟩ ?_ rfl ?_ (by assumption) ?_
        rotate_left
        · (intro w hSw; (try dsimp only at hSw); go_simp; all_goals with_reducible rfl)
        try simp only [Act.put, sA, sB, sC]
        refine tkH 6 ⟨some 18, _, _, _, _, _⟩ ?_ rfl ?_ (by assumption) ?_
        rotate_left
        · (intro w hSw; (try dsimp only at hSw); go_simp; all_goals with_reducible rfl)
        try simp only [Act.put, sA, sB, sC]
        refine tkH 7 ⟨some 19, _, _, _, _, _⟩ ?_ rfl ?_ (by assumption) ?_
        rotate_left
        · (intro w hSw; (try dsimp only at hSw); go_simp; all_goals with_reducible rfl)
        try simp only [Act.put, sA, sB, sC]
        refine tkH 8 ⟨some 20, _, _, _, _, _⟩ ?_ rfl ?_ (by assumption) ?_
        rotate_left
        · (intro w hSw; (try dsimp only at hSw); go_simp; all_goals with_reducible rfl)
        try simp only [Act.put, sA, sB, sC]
        refine tkH 9 ⟨some 21, _, _, _, _, _⟩ ?_ rfl ?_ (by assumption) ?_
        rotate_left
        · (intro w hSw; (try dsimp only at hSw); go_simp; all_goals with_reducible rfl)
        try simp only [Act.put, sA, sB, sC]
        refine tkH 10 ⟨some 22, _, _, _, _, _⟩ ?_ rfl ?_ (by assumption) ?_
        rotate_left
        · (intro w hSw; (try dsimp only at hSw); go_simp; all_goals with_reducible rfl)
        try simp only [Act.put, sA, sB, sC]
        refine wpAnyH_ready (rs := [11]) (by kernel_rfl) (by simp) ?_
        refine AllReadyH.cons rfl (fun K hK => ?_) AllReadyH.nil
        go_simp
        refine (bWthn_is _ _ _ _ _ hw).mono ?_
        rintro e w' ⟨rfl, rfl⟩
        go_wp2_with fail
        refine hK.out _ _ (by simp [go_sem, World.cell?_alloc_past, *]) (fun hHeld => ?_)
        clear hK K
        try simp only [Act.put, sA, sB, sC]
        refine wpAnyH_done (by kernel_rfl) ?_ _
        go_wp2
        go_roundw
        case rel => exact ⟨j + 1, by go_num, by omega, hz2, (by (repeat (first | (with_reducible refine Below.drew ?_) | (with_reducible refine below_drewN ?_ _) | (with_reducible refine Below.alloc ?_ (by first | omega | (simp; done) | (simp; omega) | (simp at *; omega)) _) | (with_reducible refine Below.setCell ?_ (by first | omega | (simp; done) | (simp; omega) | (simp at *; omega)) _) | (with_reducible exact Below.refl _ _) | (with_reducible assumption) | (with_reducible refine Below.trans ?_ (Below.mono (by assumption) (by first | omega | (simp; done) | (simp; omega) | (simp at *; omega)))))))⟩
        case measure => (simp [intOf]) <;> omega
    · have hjj : j = n := by omega
      have hpf : Hid (p = false) := Lib.hid (by rw [← hp.out]; exact inW_no (fun k hk => hz.out k (by have := hn.out; omega)))
      clear hz hjj
      go_wp2
      go_ret
      exact ⟨by rw [hpf.out]; rfl, hB⟩
theorem int_src {V : World} {A : Option Addr} {L : List Int} (h : SlRows intV 1 V A L) : ∀ ad, A = some ad → ∀ j u, (rowsV intV L)[j]? = some u → V.cell? (ad.add j) = some u := by
  intro ad had j u hj
  rcases h with h | ⟨b, off, rfl, hlt, h⟩
  · rw [h] at hj; simp [rowsV] at hj
  · cases had; exact rowsV_cells (f := intV) (n := 1) (fun _ => rfl) (by decide) h j u hj
theorem own_emptyJ {V : World} {base bz : Nat} {e : TypeId} (hb : base ≤ bz) (hz : V.heap[bz]? = some (.cells #[] e (0, 0))) : V.ownsRow base e 1 (.slice (some ⟨bz, 0, none⟩) 0 0) 0 [] :=
  ⟨by simp, .inr ⟨bz, 0, #[], rfl, hb, hz, Nat.zero_le _, by unfold maxLen; omega, by simp, by simp⟩⟩
theorem own_kind {w : World} {base : Nat} {e : TypeId} {G : Option Addr} {q cg : Nat} {xs : List Value} (h : w.ownsRow base e 1 (.slice G q cg) q xs) : (G = none ∧ q = 0 ∧ cg = 0) ∨ (∃ g, G = some ⟨g, 0, none⟩ ∧ q ≤ cg) := by
  rcases h.2 with ⟨hv, h0⟩ | ⟨g, cap', cur, hv, hg, hh, hle, hcap, hs, ht⟩
  · injection hv with e1 e2 e3; exact Or.inl ⟨e1, e2, e3⟩
  · injection hv with e1 e2 e3; exact Or.inr ⟨g, e1, by omega⟩
theorem ob_some {g n c k : Nat} (h : (Value.slice (some ⟨g, 0, none⟩) n c).ownBlock = some k) : k = g := by
  simp [Value.ownBlock] at h; exact h.symm
theorem slc_lo {w : World} {base : Nat} {e : TypeId} {G : Option Addr} {q cg n : Nat} {out : List Int} (h : w.ownsRow base e 1 (.slice G q cg) q (rowsV intV out)) (hq : out.length = q) (hn : n ≤ q) :
    ∃ G1, (∀ x : World, (Instr.slice 81 (.slice G q cg) none (some (.int .i64 n)) none).run Tryz.prog x = .ok (.slice G1 n cg) x) ∧ (G1 = none → n = 0 ∧ cg = 0) ∧ (∀ y, SlRows intV 1 y G out → SlRows intV 1 y G1 (out.take n)) := by
  refine ⟨G, fun x => ?_, ?_, fun y hy => hy.part n⟩
  · have hc : n ≤ cg := by rcases own_kind h with ⟨_, h1, h2⟩ | ⟨_, _, h2⟩ <;> omega
    have hc2 : (n : Int) ≤ (cg : Int) := by omega
    rcases own_kind h with ⟨rfl, h1, h2⟩ | ⟨g, rfl, h2⟩
    · simp [go_sem, hc2]
    · simp [go_sem, hc2, Addr.add]
  · intro hG
    rcases own_kind h with ⟨_, h1, h2⟩ | ⟨g, h1, h2⟩
    · exact ⟨by omega, h2⟩
    · rw [hG] at h1; cases h1
theorem slc_hi {w : World} {base : Nat} {e : TypeId} {G : Option Addr} {q cg n n2 : Nat} {out : List Int} (h : w.ownsRow base e 1 (.slice G q cg) q (rowsV intV out)) (hq : out.length = q) (hn : n + n2 = q) :
    ∃ G2 c2, (∀ x : World, (Instr.slice 81 (.slice G q cg) (some (.int .i64 n)) none none).run Tryz.prog x = .ok (.slice G2 n2 c2) x) ∧ (G2 = none → n2 = 0 ∧ c2 = 0) ∧ (∀ y, SlRows intV 1 y G out → SlRows intV 1 y G2 (out.drop n)) := by
  have hc2 : (n : Int) ≤ (q : Int) := by omega
  have hqn : q - n = n2 := by omega
  by_cases hcn : cg = n
  · have hd : out.drop n = [] := List.drop_of_length_le (by rcases own_kind h with ⟨_, h1, h2⟩ | ⟨_, _, h2⟩ <;> omega)
    have hn0 : n2 = 0 := by rcases own_kind h with ⟨_, h1, h2⟩ | ⟨_, _, h2⟩ <;> omega
    refine ⟨G, 0, fun x => ?_, fun _ => ⟨hn0, rfl⟩, fun y _ => Or.inl hd⟩
    subst hcn
    simp [go_sem, hc2]
    omega
  · rcases own_kind h with ⟨rfl, h1, h2⟩ | ⟨g, rfl, h2⟩
    · omega
    · refine ⟨some ⟨g, n, none⟩, cg - n, fun x => ?_, fun h => by (cases h), fun y hy => ?_⟩
      · simp [go_sem, hc2, Addr.add, hcn, hqn]
        exact fun h => h.symm
      · rcases hy with h0 | ⟨b, off, e1, hlt, hR⟩
        · exact Or.inl (by rw [h0]; simp)
        · injection e1 with e1
          injection e1 with e1 e2
          subst e1 e2
          refine Or.inr ⟨g, n, rfl, hlt, fun k hk i hi => ?_⟩
          rw [List.length_drop] at hk
          have := hR (n + k) (by omega) i hi
          rw [List.getElem_drop]
          rw [← this]
          congr 2
          omega
/-- What the minutes at which something may change are handed back as. -/
def StpP (l : List Int) (w : World) (e : Ending) (w' : World) : Prop := ∃ (G : Option Addr) (cg : Nat), e = .returned (.slice G l.length cg) ∧ SlRows intV 1 w' G l ∧ Below w.heap.size w w'
set_option maxRecDepth 100000 in
set_option maxHeartbeats 4000000 in
theorem refSteps_is (LA LB : List Rg) (A B : Option Addr) (na nb ca cb : Nat) (w : World) (hna : Hid (na = LA.length)) (hnb : Hid (nb = LB.length)) (hN0 : na + nb ≤ 30) (HA : Hid (∀ w' : World, Below w.heap.size w w' → SlRows rgV 2 w' A LA)) (HB : Hid (∀ w' : World, Below w.heap.size w w' → SlRows rgV 2 w' B LB)) (CA : Hid (A = none → na = 0 ∧ ca = 0)) (CB : Hid (B = none → nb = 0 ∧ cb = 0)) (hbd : Hid (∀ x ∈ LA ++ LB, 0 ≤ x.lo ∧ x.lo ≤ x.hi ∧ x.hi ≤ 1000000)) :
    Calls Tryz.prog 121 #[.slice A na ca, .slice B nb cb] w (StpP (stpL (mks (LA ++ LB))) w) := by
  obtain ⟨i0, hi, hz0, hz1, hz2⟩ := info_partsS infoIn
  have HI := Lib.hid hi
  have HZ0 := Lib.hid hz0
  have HZ1 := Lib.hid hz1
  have HZ2 := Lib.hid hz2
  obtain ⟨j0, ji, jz0, jz1, jz2⟩ := info_partsS infoRg
  have JI := Lib.hid ji
  have JZ0 := Lib.hid jz0
  have JZ1 := Lib.hid jz1
  have JZ2 := Lib.hid jz2
  have HLA := Lib.hid (rowsV_len (f := rgV) (n := 2) (fun _ => rfl) LA)
  have HLB := Lib.hid (rowsV_len (f := rgV) (n := 2) (fun _ => rfl) LB)
  rw [← hna.out] at HLA
  rw [← hnb.out] at HLB
  have HO0 := Lib.hid (World.ownsRow_made (base := w.heap.size) (e := 26) (size := 2) w #[] 0 (Nat.le_refl _) (by simp) (by simp))
  have HXA := Lib.hid (rg_src (HA.out _ (Below.alloc (Below.refl _ w) (Nat.le_refl _) (.cells #[] 26))))
  clear hi hz0 hz1 hz2 ji jz0 jz1 jz2
  go_enter Tryz.func121, Tryz.ntmps121
  go_wp2_with (at_builtin; refine wpList_append_sl rfl _ _ 32 rfl w.heap.size 26 j0 (.agg #[.int .i64 0, .int .i64 0]) 2 16 Tryz.underlying32 JI.out JZ0.out JZ1.out JZ2.out rfl (by decide) _ 0 [] rfl HO0.out A na ca (rowsV rgV LA) rfl CA.out HLA.out HXA.out (rows_one rgV_one LA) ?c1 ?c2 ?c3 ?_)
  case c1 => unfold maxLen; omega
  case c2 => omega
  case c3 => simp
  intro v' w1 hown hgrow hblk
  have hB1 : Below w.heap.size w w1 := ((Below.refl w.heap.size w).alloc (Nat.le_refl _) _).grown hgrow (by simp) (by intro k hk; simp [Value.ownBlock] at hk; omega)
  (try simp only [Nat.zero_add, List.nil_append] at hown)
  have HO1 := Lib.hid hown
  have HXB := Lib.hid (rg_src (HB.out _ hB1))
  have HB1 := Lib.hid hB1
  clear hown hgrow hblk hB1
  go_wp2_with (at_builtin; refine wpList_append_sl rfl _ _ 32 rfl w.heap.size 26 j0 (.agg #[.int .i64 0, .int .i64 0]) 2 16 Tryz.underlying32 JI.out JZ0.out JZ1.out JZ2.out rfl (by decide) _ na (rowsV rgV LA) rfl HO1.out B nb cb (rowsV rgV LB) rfl CB.out HLB.out HXB.out (rows_one rgV_one LB) ?c1 ?c2 ?c3 ?_)
  case c1 => unfold maxLen; omega
  case c2 => omega
  case c3 => exact HB1.out.size
  intro v2 wa hown hgrow hblk
  have hB2 : Below w.heap.size w wa := HB1.out.grown hgrow HB1.out.size (fun r hr => (own_block HO1.out r hr).1)
  obtain ⟨N, hN⟩ : ∃ N, Hid (na + nb = N) := ⟨_, Lib.hid rfl⟩
  have hN30 : N ≤ 30 := by have := hN.out; omega
  have hLN : Hid ((LA ++ LB).length = N) := Lib.hid (by rw [List.length_append, ← hna.out, ← hnb.out, hN.out])
  obtain ⟨Gl, cl, hv, hS, _, _, _, _⟩ := SlRows_own (f := rgV) (n := 2) (L := LA ++ LB) (fun _ => rfl) (by rw [rowsV_app, hLN.out, ← hN.out]; exact hown)
  rw [hLN.out] at hv
  subst hv
  have HALL : Hid (∀ x, Below wa.heap.size wa x → SlRows rgV 2 x Gl (LA ++ LB)) := Lib.hid fun x hx => hS.below hx
  have HB2 := Lib.hid hB2
  clear hown hgrow hblk hS hB2
  go_wp2
  go_loopw [5, 7] (fun st i wr => ∃ (j q : Nat) (G : Option Addr) (cg : Nat), st = .slice G q cg ∧ i = .int .i64 j ∧ j ≤ N ∧ q ≤ 60 ∧ Hid ((stpL (mks ((LA ++ LB).take j))).length = q) ∧ Hid (wr.ownsRow wa.heap.size 3 1 (.slice G q cg) q (rowsV intV (stpL (mks ((LA ++ LB).take j))))) ∧ Below wa.heap.size wa wr) (fun _ i _ => N - (intOf i).toNat)
  case atStart => exact ⟨0, 0, none, 0, rfl, rfl, by omega, by omega, Lib.hid rfl, Lib.hid ⟨rfl, .inl ⟨rfl, rfl⟩⟩, (by (repeat (first | (with_reducible refine Below.drew ?_) | (with_reducible refine below_drewN ?_ _) | (with_reducible refine Below.alloc ?_ (by first | omega | (simp; done) | (simp; omega) | (simp at *; omega)) _) | (with_reducible refine Below.setCell ?_ (by first | omega | (simp; done) | (simp; omega) | (simp at *; omega)) _) | (with_reducible exact Below.refl _ _) | (with_reducible assumption) | (with_reducible refine Below.trans ?_ (Below.mono (by assumption) (by first | omega | (simp; done) | (simp; omega) | (simp at *; omega)))))))⟩
  case round =>
    obtain ⟨j, q, G, cg, rfl, rfl, hj, q60, hst, HO, hB⟩ := hrel
    have hsz := hB.size
    by_cases hjn : j < N
    · have hjl : j < (LA ++ LB).length := by rw [hLN.out]; exact hjn
      have jn : (j : Int) < (N : Int) := by omega
      rcases HALL.out _ hB with h0 | ⟨b, off, rfl, hlt, hRa⟩
      · rw [h0] at hjl; simp at hjl
      obtain ⟨e0, e1⟩ := rg_at hRa hjl
      have eg : (LA ++ LB).getD j default = (LA ++ LB)[j] := by rw [List.getD_eq_getElem?_getD, List.getElem?_eq_getElem hjl]; rfl
      have hbj := hbd.out _ (List.getElem_mem hjl)
      have htk : (LA ++ LB).take (j + 1) = (LA ++ LB).take j ++ [(LA ++ LB)[j]] := List.take_succ_eq_append_getElem hjl
      rw [eg] at e0 e1
      obtain ⟨⟨ul, uh⟩, hu⟩ : ∃ u, Hid ((LA ++ LB)[j] = u) := ⟨_, Lib.hid rfl⟩
      rw [hu.out] at e0 e1 hbj htk
      dsimp only at e0 e1 hbj
      obtain ⟨u0, u1, u2⟩ := hbj
      have ew : IntKind.i64.wrap (uh + 1) = uh + 1 := IntWalk.i64_in _ (by omega)
      obtain ⟨M, hM⟩ : ∃ M, Hid (mks ((LA ++ LB).take j) = M) := ⟨_, Lib.hid rfl⟩
      have HMS : Hid (mks ((LA ++ LB).take (j + 1)) = M ++ [ul, uh + 1]) := Lib.hid (by rw [htk, mks_snoc, hM.out])
      rw [hM.out] at hst HO
      have hM2 : M.length ≤ 58 := by rw [← hM.out, mks_len, List.length_take]; omega
      clear hRa eg htk hu hM
      go_upto_region 6 with (fail)
      refine wp_region_held_drew (S := (fun w' => w'.cell? ⟨b, off + j * 2, none⟩ = some (.int .i64 ul) ∧ w'.cell? ⟨b, off + j * 2 + 1, none⟩ = some (.int .i64 uh))) (by kernel_rfl) (by simp [go_sem, World.cell?_alloc_past, *]) (fun hHeld => ?_)
      refine tkH 0 ⟨some 22, _, _, _, _, _⟩ ?_ rfl ?_ (by assumption) ?_
      rotate_left
      · (intro w hSw; (try dsimp only at hSw); go_simp; all_goals with_reducible rfl)
      try simp only [Act.put, sA, sB, sC]
      refine tkH 1 ⟨some 23, _, _, _, _, _⟩ ?_ rfl ?_ (by assumption) ?_
      rotate_left
      · (intro w hSw; (try dsimp only at hSw); go_simp; all_goals with_reducible rfl)
      try simp only [Act.put, sA, sB, sC]
      refine tkH 2 ⟨some 24, _, _, _, _, _⟩ ?_ rfl ?_ (by assumption) ?_
      rotate_left
      · (intro w hSw; (try dsimp only at hSw); go_simp; all_goals with_reducible rfl)
      try simp only [Act.put, sA, sB, sC]
      refine tkH 3 ⟨some 25, _, _, _, _, _⟩ ?_ rfl ?_ (by assumption) ?_
      rotate_left
      · (intro w hSw; (try dsimp only at hSw); go_simp; all_goals with_reducible rfl)
      try simp only [Act.put, sA, sB, sC]
      refine tkH 4 ⟨some 26, _, _, _, _, _⟩ ?_ rfl ?_ (by assumption) ?_
      rotate_left
      · (intro w hSw; (try dsimp only at hSw); go_simp; all_goals with_reducible rfl)
      try simp only [Act.put, sA, sB, sC]
      refine tkH 5 ⟨some 27, _, _, _, _, _⟩ ?_ rfl ?_ (by assumption) ?_
      rotate_left
      · (intro w hSw; (try dsimp only at hSw); go_simp; all_goals with_reducible rfl)
      try simp only [Act.put, sA, sB, sC]
      refine tkH 6 ⟨some 28, _, _, _, _, _⟩ ?_ rfl ?_ (by assumption) ?_
      rotate_left
      · (intro w hSw; (try dsimp only at hSw); go_simp; all_goals with_reducible rfl)
      try simp only [Act.put, sA, sB, sC]
      refine tkH 7 ⟨some 29, _, _, _, _, _⟩ ?_ rfl ?_ (by assumption) ?_
      rotate_left
      · (intro w hSw; (try dsimp only at hSw); go_simp; all_goals with_reducible rfl)
      try simp only [Act.put, sA, sB, sC]
      refine tkH 8 ⟨some 30, _, _, _, _, _⟩ ?_ rfl ?_ (by assumption) ?_
      rotate_left
      · (intro w hSw; (try dsimp only at hSw); go_simp; all_goals with_reducible rfl)
      try simp only [Act.put, sA, sB, sC]
      refine tkH 9 ⟨some 31, _, _, _, _, _⟩ ?_ rfl ?_ (by assumption) ?_
      rotate_left
      · (intro w hSw; (try dsimp only at hSw); go_simp; all_goals with_reducible rfl)
      try simp only [Act.put, sA, sB, sC]
      refine tkH 10 ⟨some 32, _, _, _, _, _⟩ ?_ rfl ?_ (by assumption) ?_
      rotate_left
      · (intro w hSw; (try dsimp only at hSw); go_simp; all_goals with_reducible rfl)
      try simp only [Act.put, sA, sB, sC]
      refine tkH 11 ⟨some 33, _, _, _, _, _⟩ ?_ rfl ?_ (by assumption) ?_
      rotate_left
      · (intro w hSw; (try dsimp only at hSw); go_simp; all_goals with_reducible rfl)
      try simp only [Act.put, sA, sB, sC]
      refine tkH 12 ⟨some 34, _, _, _, _, _⟩ ?_ rfl ?_ (by assumption) ?_
      rotate_left
      · (intro w hSw; (try dsimp only at hSw); go_simp; all_goals with_reducible rfl)
      try simp only [Act.put, sA, sB, sC]
      refine wpAnyH_done (by kernel_rfl) ?_ _
      go_wp2
      go_loopw [5, 34] (fun st i w2 => ∃ (k q : Nat) (G : Option Addr) (cg : Nat), st = .slice G q cg ∧ i = .int .i64 k ∧ k ≤ 2 ∧ q ≤ 60 ∧ Hid ((stpL (M ++ [ul, uh + 1].take k)).length = q) ∧ Hid (w2.ownsRow wa.heap.size 3 1 (.slice G q cg) q (rowsV intV (stpL (M ++ [ul, uh + 1].take k)))) ∧ Below wa.heap.size wa w2) (fun _ i _ => 2 - (intOf i).toNat)
      case atStart => exact ⟨0, q, G, cg, rfl, rfl, by omega, q60, Lib.hid (by simpa using hst.out), Lib.hid (by simpa using own_below HO.out (Below.drew (Below.refl _ _)) (Nat.le_refl _)), (by (repeat (first | (with_reducible refine Below.drew ?_) | (with_reducible refine below_drewN ?_ _) | (with_reducible refine Below.alloc ?_ (by first | omega | (simp; done) | (simp; omega) | (simp at *; omega)) _) | (with_reducible refine Below.setCell ?_ (by first | omega | (simp; done) | (simp; omega) | (simp at *; omega)) _) | (with_reducible exact Below.refl _ _) | (with_reducible assumption) | (with_reducible refine Below.trans ?_ (Below.mono (by assumption) (by first | omega | (simp; done) | (simp; omega) | (simp at *; omega)))))))⟩
      case round =>
        obtain ⟨k, q, G, cg, rfl, rfl, hk, q60, hst, HO, hB3⟩ := hrel
        rename World => wo
        by_cases hk2 : k < 2
        · have k2 : (k : Int) < 2 := by omega
          obtain ⟨m, hm, m0, m1, hidx⟩ : ∃ m, Hid ([ul, uh + 1].take (k + 1) = [ul, uh + 1].take k ++ [m]) ∧ 0 ≤ m ∧ m ≤ 1000001 ∧ (∀ x : World, (Instr.index 79 (.agg #[.int .i64 ul, .int .i64 (uh + 1)]) (.int .i64 (k : Int))).run Tryz.prog x = .ok (.int .i64 m) x) := by
            have : k = 0 ∨ k = 1 := by omega
            rcases this with rfl | rfl
            · exact ⟨ul, Lib.hid rfl, by omega, by omega, fun x => by kernel_rfl⟩
            · exact ⟨uh + 1, Lib.hid rfl, by omega, by omega, fun x => by kernel_rfl⟩
          obtain ⟨out, hout⟩ : ∃ out, Hid (stpL (M ++ [ul, uh + 1].take k) = out) := ⟨_, Lib.hid rfl⟩
          have HNX : Hid (stpL (M ++ [ul, uh + 1].take (k + 1)) = insU out m) := Lib.hid (by rw [hm.out, ← List.append_assoc, stpL_snoc, hout.out])
          have hq59 : q ≤ 59 := by have := stpL_len (M ++ [ul, uh + 1].take k); rw [hst.out, List.length_append, List.length_take] at this; omega
          rw [hout.out] at hst HO
          have HBO3 := Lib.hid hB3
          clear hout hm
          obtain ⟨G8, c8, hv8, hS8, _, _, _, _⟩ := SlRows_own (f := intV) (n := 1) (L := out) (fun _ => rfl) (by rw [hst.out]; exact HO.out)
          rw [hst.out] at hv8
          have e8 : G = G8 := by injection hv8
          rw [← e8] at hS8
          clear hv8
          have HOUT : Hid (∀ i, (h : i < out.length) → ∃ g, G = some ⟨g, 0, none⟩ ∧ wo.cell? ⟨g, i, none⟩ = some (.int .i64 out[i])) := Lib.hid (fun i h => by
            rcases hS8 with h0 | ⟨g, off, e, hlt, hR⟩
            · rw [h0] at h; simp at h
            · rcases own_kind HO.out with ⟨h1, _, _⟩ | ⟨g2, h1, _⟩
              · rw [h1] at e; cases e
              · rw [h1] at e; injection e with e; injection e with e1 e2; subst e1 e2; exact ⟨g2, h1, by have := hR i h 0 (by omega); simpa [intV] using this⟩)
          clear hS8 e8
          go_wp2
          go_loop [10] (fun x => ∃ n : Nat, x = .int .i64 n ∧ n ≤ q ∧ Hid (∀ i, i < n → ∀ h : i < out.length, out[i] < m)) (fun x => q - (intOf x).toNat)
          case atStart => exact ⟨0, rfl, by omega, Lib.hid (fun i hi => by omega)⟩
          case round =>
            obtain ⟨n, rfl, hn, hless⟩ := hrel
            by_cases hnq : n < q
            · have hnl : n < out.length := by rw [hst.out]; exact hnq
              have nq : (n : Int) < (q : Int) := by omega
              obtain ⟨g, rfl, hcell⟩ := HOUT.out n hnl
              obtain ⟨y, hy⟩ : ∃ y, Hid (out[n] = y) := ⟨_, Lib.hid rfl⟩
              rw [hy.out] at hcell
              by_cases hym : y < m
              · have hless2 : Hid (∀ i, i < n + 1 → ∀ h : i < out.length, out[i] < m) := Lib.hid (fun i hi h => by
                  by_cases e : i = n
                  · subst e; rw [hy.out]; exact hym
                  · exact hless.out i (by omega) h)
                have en : IntKind.i64.wrap ((n : Int) + 1) = (n : Int) + 1 := IntWalk.i64_in _ (by omega)
                clear hless hy
                go_wp2
                go_round
                case rel => exact ⟨n + 1, by go_num, by omega, hless2⟩
                case measure => (simp [intOf]) <;> omega
              · have hL : Hid (lessN out m = n) := Lib.hid (lessN_eq (by omega) hless.out (fun h => by rw [hy.out]; exact hym))
                have hgd : Hid (out.getD n 0 = y) := Lib.hid (by rw [List.getD_eq_getElem?_getD, List.getElem?_eq_getElem hnl]; exact hy.out)
                have nqn : ¬ (n : Int) = (q : Int) := by omega
                clear hless hy
                by_cases hyn : y = m
                · have HINS : Hid (insU out m = out) := Lib.hid (by unfold insU; rw [hL.out, hgd.out, if_neg (by rw [hst.out]; intro h; rcases h with h | h <;> omega)])
                  have hyb : (y != m) = false := by simp [hyn]
                  clear hgd hL hyn
                  go_wp2
                  go_roundw
                  case rel => exact ⟨k + 1, q, _, cg, rfl, by go_num, by omega, by omega, Lib.hid (by rw [HNX.out, HINS.out]; exact hst.out), Lib.hid (by rw [HNX.out, HINS.out]; exact HO.out), HBO3.out⟩
                  case measure => (simp [intOf]) <;> omega
                · have HINS : Hid (insU out m = out.take n ++ [m] ++ out.drop n) := Lib.hid (by unfold insU; rw [hL.out, hgd.out, if_pos (Or.inr hyn)])
                  have hyb : (y != m) = true := by simpa using hyn
                  clear hgd hL hyn
                  obtain ⟨n2, hn2⟩ : ∃ n2, n + n2 = q := ⟨q - n, by omega⟩
                  have hoL := hst.out
                  obtain ⟨G1, hs1, hC1, hG1⟩ := slc_lo HO.out hoL (show n ≤ q by omega)
                  obtain ⟨G2, c2, hs2, hC2, hG2⟩ := slc_hi (n2 := n2) HO.out hoL (by omega)
                  have hL1 : (rowsV intV (out.take n)).length = n * 1 := by rw [rowsV_len (n := 1) (fun _ => rfl), List.length_take, hoL]; omega
                  have hL2 : (rowsV intV (out.drop n)).length = n2 * 1 := by rw [rowsV_len (n := 1) (fun _ => rfl), List.length_drop, hoL]; omega
                  obtain ⟨G9, c9, hv9, hS9, hb9, _, _, _⟩ := SlRows_own (f := intV) (n := 1) (L := out) (fun _ => rfl) (by rw [hoL]; exact HO.out)
                  rw [hoL] at hv9
                  have e9 : (some ⟨g, 0, none⟩) = G9 := by injection hv9
                  rw [← e9] at hS9
                  clear hv9
                  have HROW : Hid (∀ x, Below wo.heap.size wo x → SlRows intV 1 x (some ⟨g, 0, none⟩) out) := Lib.hid fun x hx => hS9.below hx
                  have HG1 := Lib.hid hG1
                  have HG2 := Lib.hid hG2
                  have HC1 := Lib.hid hC1
                  have HC2 := Lib.hid hC2
                  have HL1 := Lib.hid hL1
                  have HL2 := Lib.hid hL2
                  have hwo : wa.heap.size ≤ wo.heap.size := HBO3.out.size
                  clear hG1 hG2 hC1 hC2 hL1 hL2 hS9 hb9 hoL e9
                  go_upto_region 13 with (fail)
                  refine wp_region_held_drew (S := (fun _ => True)) (by kernel_rfl) (by trivial) (fun hHeld => ?_)
                  have hT0 : Below wo.heap.size wo wo.drew := (Below.refl _ _).drew
                  generalize hdr : wo.drew = v0 at *
                  clear hdr
                  refine tkH 1 ⟨some 64, _, _, _, _, _⟩ ?_ rfl ?_ (by assumption) ?_
                  rotate_left
                  · (intro w hSw; (try dsimp only at hSw); go_simp; all_goals with_reducible rfl)
                  try simp only [Act.put, sA, sB, sC]
                  refine tkH 2 ⟨some 65, _, _, _, _, _⟩ ?_ rfl ?_ (by assumption) ?_
                  rotate_left
                  · (intro w hSw; (try dsimp only at hSw); go_simp; all_goals with_reducible rfl)
                  try simp only [Act.put, sA, sB, sC]
                  refine tkH 3 ⟨some 66, _, _, _, _, _⟩ ?_ rfl ?_ (by assumption) ?_
                  rotate_left
                  · (intro w hSw; (try dsimp only at hSw); go_simp; all_goals with_reducible rfl)
                  try simp only [Act.put, sA, sB, sC]
                  refine tkH 5 ⟨some 68, _, _, _, _, _⟩ ?_ rfl ?_ (by assumption) ?_
                  rotate_left
                  · (intro w hSw; (try dsimp only at hSw); go_simp; all_goals with_reducible rfl)
                  try simp only [Act.put, sA, sB, sC]
                  refine tkH 8 ⟨some 71, _, _, _, _, _⟩ ?_ rfl ?_ (by assumption) ?_
                  rotate_left
                  · (intro w hSw; (try dsimp only at hSw); go_simp; all_goals with_reducible rfl)
                  try simp only [Act.put, sA, sB, sC]
                  refine tkH 9 ⟨some 72, _, _, _, _, _⟩ ?_ rfl ?_ (by assumption) ?_
                  rotate_left
                  · (intro w hSw; (try dsimp only at hSw); go_simp; all_goals with_reducible rfl)
                  try simp only [Act.put, sA, sB, sC]
                  refine tkH 10 ⟨some 73, _, _, _, _, _⟩ ?_ rfl ?_ (by assumption) ?_
                  rotate_left
                  · (intro w hSw; (try dsimp only at hSw); go_simp; all_goals with_reducible rfl)
                  try simp only [Act.put, sA, sB, sC]
                  refine wpAnyH_ready (rs := [0, 6]) (by kernel_rfl) (by simp) ?_
                  refine AllReadyH.cons rfl (fun K hK => ?_) (AllReadyH.cons rfl (fun K hK => ?_) (AllReadyH.nil))
                  · skip
                    go_simp
                    go_wp2_with fail
                    refine hK.out _ _ trivial (fun hHeld => ?_)
                    clear hK K
                    try simp only [Act.put, sA, sB, sC]
                    obtain ⟨bz, ebz⟩ : ∃ x, v0.heap.size = x := ⟨_, rfl⟩
                    generalize hq0 : v0.alloc (.cells #[] 3) = v1
                    have hb0 : Below v0.heap.size v0 v1 := by rw [← hq0]; exact (Below.refl _ _).alloc (Nat.le_refl _) _
                    have hT1 : Below wo.heap.size wo v1 := hT0.trans (hb0.mono hT0.size)
                    have hW1 : wa.heap.size ≤ v1.heap.size := Nat.le_trans hwo hT1.size
                    have HE1 : Hid (v1.ownsRow wa.heap.size 3 1 (.slice (some ⟨bz, 0, none⟩) 0 0) 0 []) := Lib.hid (own_emptyJ (by rw [← ebz]; exact Nat.le_trans hwo hT0.size) (by rw [← hq0, ← ebz]; exact allocF_at _ _))
                    have hbz : wo.heap.size ≤ bz := by rw [← ebz]; exact hT0.size
                    rw [ebz]
                    clear hq0 hb0 hT0
                    refine wpAnyH_ready (rs := [4, 6]) (by kernel_rfl) (by simp) ?_
                    refine AllReadyH.cons rfl (fun K hK => ?_) (AllReadyH.cons rfl (fun K hK => ?_) (AllReadyH.nil))
                    · skip
                      rw [if_pos (by kernel_rfl)]
                      have HX1 := Lib.hid (int_src (HG1.out _ (HROW.out _ hT1)))
                      refine oper_append_sl _ _ 81 rfl wa.heap.size 3 i0 (.int .i64 0) 1 8 Tryz.underlying81 HI.out HZ0.out HZ1.out HZ2.out rfl (by decide) _ 0 [] rfl HE1.out G1 n cg (rowsV intV (out.take n)) rfl HC1.out HL1.out HX1.out (rows_one intV_one _) ?d1 ?d2 hW1 ?_
                      case d1 => unfold maxLen; omega
                      case d2 => omega
                      intro r1 v2 hown hgrow hblk
                      have hT2 : Below wo.heap.size wo v2 := hT1.grown hgrow hT1.size (fun r hr => by rw [ob_some hr]; exact hbz)
                      have hW2 : wa.heap.size ≤ v2.heap.size := Nat.le_trans hwo hT2.size
                      have hown2 : v2.ownsRow wa.heap.size 3 1 r1 n (rowsV intV (out.take n)) := by
                        simpa using hown
                      have HE2 := Lib.hid hown2
                      have HF2 : Hid (∀ r, r1.ownBlock = some r → wo.heap.size ≤ r) := Lib.hid (fun r hr => (hblk r hr).elim (fun h => by rw [ob_some h]; exact hbz) (fun h => Nat.le_trans hT1.size h))
                      clear hown hown2 hgrow hblk
                      clear hT1
                      refine hK.out _ _ trivial (fun hHeld => ?_)
                      clear hK K
                      try simp only [Act.put, sA, sB, sC]
                      refine wpAnyH_ready (rs := [6]) (by kernel_rfl) (by simp) ?_
                      refine AllReadyH.cons rfl (fun K hK => ?_) (AllReadyH.nil)
                      go_simp
                      go_wp2_with fail
                      refine hK.out _ _ trivial (fun hHeld => ?_)
                      clear hK K
                      try simp only [Act.put, sA, sB, sC]
                      obtain ⟨bm, ebm⟩ : ∃ x, v2.heap.size = x := ⟨_, rfl⟩
                      generalize hq2 : v2.alloc (.cells #[.int .i64 m] 3) = v3
                      have hb2 : Below v2.heap.size v2 v3 := by rw [← hq2]; exact (Below.refl _ _).alloc (Nat.le_refl _) _
                      have hT3 : Below wo.heap.size wo v3 := hT2.trans (hb2.mono hT2.size)
                      have hW3 : wa.heap.size ≤ v3.heap.size := Nat.le_trans hwo hT3.size
                      have HM3 : Hid (v3.cell? ⟨bm, 0, none⟩ = some (.int .i64 m) ∧ bm < v3.heap.size) := Lib.hid (by rw [← hq2, ← ebm]; exact ⟨by simp [go_sem], by simp⟩)
                      have HE3 := Lib.hid (own_below HE2.out hb2 (Nat.le_refl _))
                      have HF3 := HF2
                      rw [ebm]
                      clear hq2 hb2 hT2
                      refine wpAnyH_ready (rs := [7]) (by kernel_rfl) (by simp) ?_
                      refine AllReadyH.cons rfl (fun K hK => ?_) (AllReadyH.nil)
                      rw [if_pos (by kernel_rfl)]
                      have HX3 : Hid (∀ ad : Addr, some (⟨bm, 0, none⟩ : Addr) = some ad → ∀ j u, [Value.int .i64 m][j]? = some u → v3.cell? (ad.add j) = some u) := Lib.hid (fun ad had j u hj => by cases had; match j, hj with | 0, hj => simp at hj; subst hj; exact HM3.out.1)
                      refine oper_append_sl _ _ 81 rfl wa.heap.size 3 i0 (.int .i64 0) 1 8 Tryz.underlying81 HI.out HZ0.out HZ1.out HZ2.out rfl (by decide) _ n (rowsV intV (out.take n)) rfl HE3.out (some ⟨bm, 0, none⟩) 1 1 [.int .i64 m] rfl (fun h => by cases h) rfl HX3.out (by intro u hu; simp at hu; subst hu; rfl) ?d1 ?d2 hW3 ?_
                      case d1 => unfold maxLen; omega
                      case d2 => omega
                      intro r3 v4 hown hgrow hblk
                      have hT4 : Below wo.heap.size wo v4 := hT3.grown hgrow hT3.size (fun r hr => HF3.out r hr)
                      have hW4 : wa.heap.size ≤ v4.heap.size := Nat.le_trans hwo hT4.size
                      have hown2 : v4.ownsRow wa.heap.size 3 1 r3 (n + 1) (rowsV intV (out.take n ++ [m])) := by
                        rw [rowsV_app]; exact hown
                      have HE4 := Lib.hid hown2
                      have HF4 : Hid (∀ r, r3.ownBlock = some r → wo.heap.size ≤ r) := Lib.hid (fun r hr => (hblk r hr).elim (fun h => HF3.out r h) (fun h => Nat.le_trans hT3.size h))
                      clear hown hown2 hgrow hblk
                      clear hT3
                      refine hK.out _ _ trivial (fun hHeld => ?_)
                      clear hK K
                      try simp only [Act.put, sA, sB, sC]
                      refine wpAnyH_ready (rs := [11]) (by kernel_rfl) (by simp) ?_
                      refine AllReadyH.cons rfl (fun K hK => ?_) (AllReadyH.nil)
                      rw [if_pos (by kernel_rfl)]
                      have HX4 := Lib.hid (int_src (HG2.out _ (HROW.out _ hT4)))
                      refine oper_append_sl _ _ 81 rfl wa.heap.size 3 i0 (.int .i64 0) 1 8 Tryz.underlying81 HI.out HZ0.out HZ1.out HZ2.out rfl (by decide) _ (n + 1) (rowsV intV (out.take n ++ [m])) rfl HE4.out G2 n2 c2 (rowsV intV (out.drop n)) rfl HC2.out HL2.out HX4.out (rows_one intV_one _) ?d1 ?d2 hW4 ?_
                      case d1 => unfold maxLen; omega
                      case d2 => omega
                      intro r4 v5 hown hgrow hblk
                      have hT5 : Below wo.heap.size wo v5 := hT4.grown hgrow hT4.size (fun r hr => HF4.out r hr)
                      have hW5 : wa.heap.size ≤ v5.heap.size := Nat.le_trans hwo hT5.size
                      have hown2 : v5.ownsRow wa.heap.size 3 1 r4 (q + 1) (rowsV intV (out.take n ++ [m] ++ out.drop n)) := by
                        rw [rowsV_app, show q + 1 = n + 1 + n2 by omega]; exact hown
                      have hlq : (out.take n ++ [m] ++ out.drop n).length = q + 1 := by rw [List.length_append, List.length_append, List.length_take, List.length_drop, hst.out]; simp only [List.length_cons, List.length_nil]; omega
                      obtain ⟨G5, cg5, hv5, _, _, _, _, _⟩ := SlRows_own (f := intV) (n := 1) (L := out.take n ++ [m] ++ out.drop n) (fun _ => rfl) (by rw [hlq]; exact hown2)
                      rw [hlq] at hv5
                      subst hv5
                      have HOW := Lib.hid hown2
                      have HBN : Hid (Below wa.heap.size wa v5) := Lib.hid (HBO3.out.trans (hT5.mono hwo))
                      clear hown hown2 hgrow hblk hT4 hT5
                      refine hK.out _ _ trivial (fun hHeld => ?_)
                      clear hK K
                      try simp only [Act.put, sA, sB, sC]
                      refine tkH 12 ⟨some 5, _, _, _, _, _⟩ ?_ rfl ?_ (by assumption) ?_
                      rotate_left
                      · (intro w hSw; (try dsimp only at hSw); go_simp; all_goals with_reducible rfl)
                      try simp only [Act.put, sA, sB, sC]
                      refine wpAnyH_done (by kernel_rfl) ?_ _
                      go_wp2
                      go_roundw
                      case rel => exact ⟨k + 1, q + 1, G5, cg5, rfl, by go_num, by omega, by omega, Lib.hid (by rw [HNX.out, HINS.out, List.length_append, List.length_append, List.length_take, List.length_drop, hst.out]; simp only [List.length_cons, List.length_nil]; omega), Lib.hid (by rw [HNX.out, HINS.out]; exact HOW.out), HBN.out⟩
                      case measure => (simp [intOf]) <;> omega
                    · skip
                      go_simp
                      go_wp2_with fail
                      refine hK.out _ _ trivial (fun hHeld => ?_)
                      clear hK K
                      try simp only [Act.put, sA, sB, sC]
                      obtain ⟨bm, ebm⟩ : ∃ x, v1.heap.size = x := ⟨_, rfl⟩
                      generalize hq1 : v1.alloc (.cells #[.int .i64 m] 3) = v2
                      have hb1 : Below v1.heap.size v1 v2 := by rw [← hq1]; exact (Below.refl _ _).alloc (Nat.le_refl _) _
                      have hT2 : Below wo.heap.size wo v2 := hT1.trans (hb1.mono hT1.size)
                      have hW2 : wa.heap.size ≤ v2.heap.size := Nat.le_trans hwo hT2.size
                      have HM2 : Hid (v2.cell? ⟨bm, 0, none⟩ = some (.int .i64 m) ∧ bm < v2.heap.size) := Lib.hid (by rw [← hq1, ← ebm]; exact ⟨by simp [go_sem], by simp⟩)
                      have HE2 := Lib.hid (own_below HE1.out hb1 (Nat.le_refl _))
                      have nbm : bm ≠ bz := by have := (own_block HE1.out bz (by simp [Value.ownBlock])).2; omega
                      rw [ebm]
                      clear hq1 hb1 hT1
                      refine wpAnyH_ready (rs := [4]) (by kernel_rfl) (by simp) ?_
                      refine AllReadyH.cons rfl (fun K hK => ?_) (AllReadyH.nil)
                      rw [if_pos (by kernel_rfl)]
                      have HX2 := Lib.hid (int_src (HG1.out _ (HROW.out _ hT2)))
                      refine oper_append_sl _ _ 81 rfl wa.heap.size 3 i0 (.int .i64 0) 1 8 Tryz.underlying81 HI.out HZ0.out HZ1.out HZ2.out rfl (by decide) _ 0 [] rfl HE2.out G1 n cg (rowsV intV (out.take n)) rfl HC1.out HL1.out HX2.out (rows_one intV_one _) ?d1 ?d2 hW2 ?_
                      case d1 => unfold maxLen; omega
                      case d2 => omega
                      intro r2 v3 hown hgrow hblk
                      have hT3 : Below wo.heap.size wo v3 := hT2.grown hgrow hT2.size (fun r hr => by rw [ob_some hr]; exact hbz)
                      have hW3 : wa.heap.size ≤ v3.heap.size := Nat.le_trans hwo hT3.size
                      have hown2 : v3.ownsRow wa.heap.size 3 1 r2 n (rowsV intV (out.take n)) := by
                        simpa using hown
                      have HE3 := Lib.hid hown2
                      have HF3 : Hid (∀ r, r2.ownBlock = some r → wo.heap.size ≤ r) := Lib.hid (fun r hr => (hblk r hr).elim (fun h => by rw [ob_some h]; exact hbz) (fun h => Nat.le_trans hT2.size h))
                      have HM3 : Hid (v3.cell? ⟨bm, 0, none⟩ = some (.int .i64 m) ∧ bm < v3.heap.size) := Lib.hid ⟨(World.cell?_of_block (a := ⟨bm, 0, none⟩) (hgrow.block bm HM2.out.2 (fun hh => nbm (ob_some hh.symm)))).trans HM2.out.1, Nat.lt_of_lt_of_le HM2.out.2 hgrow.size⟩
                      clear hown hown2 hgrow hblk
                      clear hT2
                      refine hK.out _ _ trivial (fun hHeld => ?_)
                      clear hK K
                      try simp only [Act.put, sA, sB, sC]
                      refine wpAnyH_ready (rs := [7]) (by kernel_rfl) (by simp) ?_
                      refine AllReadyH.cons rfl (fun K hK => ?_) (AllReadyH.nil)
                      rw [if_pos (by kernel_rfl)]
                      have HX3 : Hid (∀ ad : Addr, some (⟨bm, 0, none⟩ : Addr) = some ad → ∀ j u, [Value.int .i64 m][j]? = some u → v3.cell? (ad.add j) = some u) := Lib.hid (fun ad had j u hj => by cases had; match j, hj with | 0, hj => simp at hj; subst hj; exact HM3.out.1)
                      refine oper_append_sl _ _ 81 rfl wa.heap.size 3 i0 (.int .i64 0) 1 8 Tryz.underlying81 HI.out HZ0.out HZ1.out HZ2.out rfl (by decide) _ n (rowsV intV (out.take n)) rfl HE3.out (some ⟨bm, 0, none⟩) 1 1 [.int .i64 m] rfl (fun h => by cases h) rfl HX3.out (by intro u hu; simp at hu; subst hu; rfl) ?d1 ?d2 hW3 ?_
                      case d1 => unfold maxLen; omega
                      case d2 => omega
                      intro r3 v4 hown hgrow hblk
                      have hT4 : Below wo.heap.size wo v4 := hT3.grown hgrow hT3.size (fun r hr => HF3.out r hr)
                      have hW4 : wa.heap.size ≤ v4.heap.size := Nat.le_trans hwo hT4.size
                      have hown2 : v4.ownsRow wa.heap.size 3 1 r3 (n + 1) (rowsV intV (out.take n ++ [m])) := by
                        rw [rowsV_app]; exact hown
                      have HE4 := Lib.hid hown2
                      have HF4 : Hid (∀ r, r3.ownBlock = some r → wo.heap.size ≤ r) := Lib.hid (fun r hr => (hblk r hr).elim (fun h => HF3.out r h) (fun h => Nat.le_trans hT3.size h))
                      clear hown hown2 hgrow hblk
                      clear hT3
                      refine hK.out _ _ trivial (fun hHeld => ?_)
                      clear hK K
                      try simp only [Act.put, sA, sB, sC]
                      refine wpAnyH_ready (rs := [11]) (by kernel_rfl) (by simp) ?_
                      refine AllReadyH.cons rfl (fun K hK => ?_) (AllReadyH.nil)
                      rw [if_pos (by kernel_rfl)]
                      have HX4 := Lib.hid (int_src (HG2.out _ (HROW.out _ hT4)))
                      refine oper_append_sl _ _ 81 rfl wa.heap.size 3 i0 (.int .i64 0) 1 8 Tryz.underlying81 HI.out HZ0.out HZ1.out HZ2.out rfl (by decide) _ (n + 1) (rowsV intV (out.take n ++ [m])) rfl HE4.out G2 n2 c2 (rowsV intV (out.drop n)) rfl HC2.out HL2.out HX4.out (rows_one intV_one _) ?d1 ?d2 hW4 ?_
                      case d1 => unfold maxLen; omega
                      case d2 => omega
                      intro r4 v5 hown hgrow hblk
                      have hT5 : Below wo.heap.size wo v5 := hT4.grown hgrow hT4.size (fun r hr => HF4.out r hr)
                      have hW5 : wa.heap.size ≤ v5.heap.size := Nat.le_trans hwo hT5.size
                      have hown2 : v5.ownsRow wa.heap.size 3 1 r4 (q + 1) (rowsV intV (out.take n ++ [m] ++ out.drop n)) := by
                        rw [rowsV_app, show q + 1 = n + 1 + n2 by omega]; exact hown
                      have hlq : (out.take n ++ [m] ++ out.drop n).length = q + 1 := by rw [List.length_append, List.length_append, List.length_take, List.length_drop, hst.out]; simp only [List.length_cons, List.length_nil]; omega
                      obtain ⟨G5, cg5, hv5, _, _, _, _, _⟩ := SlRows_own (f := intV) (n := 1) (L := out.take n ++ [m] ++ out.drop n) (fun _ => rfl) (by rw [hlq]; exact hown2)
                      rw [hlq] at hv5
                      subst hv5
                      have HOW := Lib.hid hown2
                      have HBN : Hid (Below wa.heap.size wa v5) := Lib.hid (HBO3.out.trans (hT5.mono hwo))
                      clear hown hown2 hgrow hblk hT4 hT5
                      refine hK.out _ _ trivial (fun hHeld => ?_)
                      clear hK K
                      try simp only [Act.put, sA, sB, sC]
                      refine tkH 12 ⟨some 5, _, _, _, _, _⟩ ?_ rfl ?_ (by assumption) ?_
                      rotate_left
                      · (intro w hSw; (try dsimp only at hSw); go_simp; all_goals with_reducible rfl)
                      try simp only [Act.put, sA, sB, sC]
                      refine wpAnyH_done (by kernel_rfl) ?_ _
                      go_wp2
                      go_roundw
                      case rel => exact ⟨k + 1, q + 1, G5, cg5, rfl, by go_num, by omega, by omega, Lib.hid (by rw [HNX.out, HINS.out, List.length_append, List.length_append, List.length_take, List.length_drop, hst.out]; simp only [List.length_cons, List.length_nil]; omega), Lib.hid (by rw [HNX.out, HINS.out]; exact HOW.out), HBN.out⟩
                      case measure => (simp [intOf]) <;> omega
                  · skip
                    go_simp
                    go_wp2_with fail
                    refine hK.out _ _ trivial (fun hHeld => ?_)
                    clear hK K
                    try simp only [Act.put, sA, sB, sC]
                    obtain ⟨bm, ebm⟩ : ∃ x, v0.heap.size = x := ⟨_, rfl⟩
                    generalize hq0 : v0.alloc (.cells #[.int .i64 m] 3) = v1
                    have hb0 : Below v0.heap.size v0 v1 := by rw [← hq0]; exact (Below.refl _ _).alloc (Nat.le_refl _) _
                    have hT1 : Below wo.heap.size wo v1 := hT0.trans (hb0.mono hT0.size)
                    have hW1 : wa.heap.size ≤ v1.heap.size := Nat.le_trans hwo hT1.size
                    have HM1 : Hid (v1.cell? ⟨bm, 0, none⟩ = some (.int .i64 m) ∧ bm < v1.heap.size) := Lib.hid (by rw [← hq0, ← ebm]; exact ⟨by simp [go_sem], by simp⟩)
                    rw [ebm]
                    clear hq0 hb0 hT0
                    refine wpAnyH_ready (rs := [0]) (by kernel_rfl) (by simp) ?_
                    refine AllReadyH.cons rfl (fun K hK => ?_) (AllReadyH.nil)
                    go_simp
                    go_wp2_with fail
                    refine hK.out _ _ trivial (fun hHeld => ?_)
                    clear hK K
                    try simp only [Act.put, sA, sB, sC]
                    obtain ⟨bz, ebz⟩ : ∃ x, v1.heap.size = x := ⟨_, rfl⟩
                    generalize hq1 : v1.alloc (.cells #[] 3) = v2
                    have hb1 : Below v1.heap.size v1 v2 := by rw [← hq1]; exact (Below.refl _ _).alloc (Nat.le_refl _) _
                    have hT2 : Below wo.heap.size wo v2 := hT1.trans (hb1.mono hT1.size)
                    have hW2 : wa.heap.size ≤ v2.heap.size := Nat.le_trans hwo hT2.size
                    have HE2 : Hid (v2.ownsRow wa.heap.size 3 1 (.slice (some ⟨bz, 0, none⟩) 0 0) 0 []) := Lib.hid (own_emptyJ (by rw [← ebz]; exact Nat.le_trans hwo hT1.size) (by rw [← hq1, ← ebz]; exact allocF_at _ _))
                    have hbz : wo.heap.size ≤ bz := by rw [← ebz]; exact hT1.size
                    have nbm : bm ≠ bz := by have := HM1.out.2; omega
                    have HM2 : Hid (v2.cell? ⟨bm, 0, none⟩ = some (.int .i64 m) ∧ bm < v2.heap.size) := Lib.hid ⟨(hb1.cell (p := ⟨bm, 0, none⟩) HM1.out.2).trans HM1.out.1, Nat.lt_of_lt_of_le HM1.out.2 hb1.size⟩
                    rw [ebz]
                    clear hq1 hb1 hT1
                    refine wpAnyH_ready (rs := [4]) (by kernel_rfl) (by simp) ?_
                    refine AllReadyH.cons rfl (fun K hK => ?_) (AllReadyH.nil)
                    rw [if_pos (by kernel_rfl)]
                    have HX2 := Lib.hid (int_src (HG1.out _ (HROW.out _ hT2)))
                    refine oper_append_sl _ _ 81 rfl wa.heap.size 3 i0 (.int .i64 0) 1 8 Tryz.underlying81 HI.out HZ0.out HZ1.out HZ2.out rfl (by decide) _ 0 [] rfl HE2.out G1 n cg (rowsV intV (out.take n)) rfl HC1.out HL1.out HX2.out (rows_one intV_one _) ?d1 ?d2 hW2 ?_
                    case d1 => unfold maxLen; omega
                    case d2 => omega
                    intro r2 v3 hown hgrow hblk
                    have hT3 : Below wo.heap.size wo v3 := hT2.grown hgrow hT2.size (fun r hr => by rw [ob_some hr]; exact hbz)
                    have hW3 : wa.heap.size ≤ v3.heap.size := Nat.le_trans hwo hT3.size
                    have hown2 : v3.ownsRow wa.heap.size 3 1 r2 n (rowsV intV (out.take n)) := by
                      simpa using hown
                    have HE3 := Lib.hid hown2
                    have HF3 : Hid (∀ r, r2.ownBlock = some r → wo.heap.size ≤ r) := Lib.hid (fun r hr => (hblk r hr).elim (fun h => by rw [ob_some h]; exact hbz) (fun h => Nat.le_trans hT2.size h))
                    have HM3 : Hid (v3.cell? ⟨bm, 0, none⟩ = some (.int .i64 m) ∧ bm < v3.heap.size) := Lib.hid ⟨(World.cell?_of_block (a := ⟨bm, 0, none⟩) (hgrow.block bm HM2.out.2 (fun hh => nbm (ob_some hh.symm)))).trans HM2.out.1, Nat.lt_of_lt_of_le HM2.out.2 hgrow.size⟩
                    clear hown hown2 hgrow hblk
                    clear hT2
                    refine hK.out _ _ trivial (fun hHeld => ?_)
                    clear hK K
                    try simp only [Act.put, sA, sB, sC]
                    refine wpAnyH_ready (rs := [7]) (by kernel_rfl) (by simp) ?_
                    refine AllReadyH.cons rfl (fun K hK => ?_) (AllReadyH.nil)
                    rw [if_pos (by kernel_rfl)]
                    have HX3 : Hid (∀ ad : Addr, some (⟨bm, 0, none⟩ : Addr) = some ad → ∀ j u, [Value.int .i64 m][j]? = some u → v3.cell? (ad.add j) = some u) := Lib.hid (fun ad had j u hj => by cases had; match j, hj with | 0, hj => simp at hj; subst hj; exact HM3.out.1)
                    refine oper_append_sl _ _ 81 rfl wa.heap.size 3 i0 (.int .i64 0) 1 8 Tryz.underlying81 HI.out HZ0.out HZ1.out HZ2.out rfl (by decide) _ n (rowsV intV (out.take n)) rfl HE3.out (some ⟨bm, 0, none⟩) 1 1 [.int .i64 m] rfl (fun h => by cases h) rfl HX3.out (by intro u hu; simp at hu; subst hu; rfl) ?d1 ?d2 hW3 ?_
                    case d1 => unfold maxLen; omega
                    case d2 => omega
                    intro r3 v4 hown hgrow hblk
                    have hT4 : Below wo.heap.size wo v4 := hT3.grown hgrow hT3.size (fun r hr => HF3.out r hr)
                    have hW4 : wa.heap.size ≤ v4.heap.size := Nat.le_trans hwo hT4.size
                    have hown2 : v4.ownsRow wa.heap.size 3 1 r3 (n + 1) (rowsV intV (out.take n ++ [m])) := by
                      rw [rowsV_app]; exact hown
                    have HE4 := Lib.hid hown2
                    have HF4 : Hid (∀ r, r3.ownBlock = some r → wo.heap.size ≤ r) := Lib.hid (fun r hr => (hblk r hr).elim (fun h => HF3.out r h) (fun h => Nat.le_trans hT3.size h))
                    clear hown hown2 hgrow hblk
                    clear hT3
                    refine hK.out _ _ trivial (fun hHeld => ?_)
                    clear hK K
                    try simp only [Act.put, sA, sB, sC]
                    refine wpAnyH_ready (rs := [11]) (by kernel_rfl) (by simp) ?_
                    refine AllReadyH.cons rfl (fun K hK => ?_) (AllReadyH.nil)
                    rw [if_pos (by kernel_rfl)]
                    have HX4 := Lib.hid (int_src (HG2.out _ (HROW.out _ hT4)))
                    refine oper_append_sl _ _ 81 rfl wa.heap.size 3 i0 (.int .i64 0) 1 8 Tryz.underlying81 HI.out HZ0.out HZ1.out HZ2.out rfl (by decide) _ (n + 1) (rowsV intV (out.take n ++ [m])) rfl HE4.out G2 n2 c2 (rowsV intV (out.drop n)) rfl HC2.out HL2.out HX4.out (rows_one intV_one _) ?d1 ?d2 hW4 ?_
                    case d1 => unfold maxLen; omega
                    case d2 => omega
                    intro r4 v5 hown hgrow hblk
                    have hT5 : Below wo.heap.size wo v5 := hT4.grown hgrow hT4.size (fun r hr => HF4.out r hr)
                    have hW5 : wa.heap.size ≤ v5.heap.size := Nat.le_trans hwo hT5.size
                    have hown2 : v5.ownsRow wa.heap.size 3 1 r4 (q + 1) (rowsV intV (out.take n ++ [m] ++ out.drop n)) := by
                      rw [rowsV_app, show q + 1 = n + 1 + n2 by omega]; exact hown
                    have hlq : (out.take n ++ [m] ++ out.drop n).length = q + 1 := by rw [List.length_append, List.length_append, List.length_take, List.length_drop, hst.out]; simp only [List.length_cons, List.length_nil]; omega
                    obtain ⟨G5, cg5, hv5, _, _, _, _, _⟩ := SlRows_own (f := intV) (n := 1) (L := out.take n ++ [m] ++ out.drop n) (fun _ => rfl) (by rw [hlq]; exact hown2)
                    rw [hlq] at hv5
                    subst hv5
                    have HOW := Lib.hid hown2
                    have HBN : Hid (Below wa.heap.size wa v5) := Lib.hid (HBO3.out.trans (hT5.mono hwo))
                    clear hown hown2 hgrow hblk hT4 hT5
                    refine hK.out _ _ trivial (fun hHeld => ?_)
                    clear hK K
                    try simp only [Act.put, sA, sB, sC]
                    refine tkH 12 ⟨some 5, _, _, _, _, _⟩ ?_ rfl ?_ (by assumption) ?_
                    rotate_left
                    · (intro w hSw; (try dsimp only at hSw); go_simp; all_goals with_reducible rfl)
                    try simp only [Act.put, sA, sB, sC]
                    refine wpAnyH_done (by kernel_rfl) ?_ _
                    go_wp2
                    go_roundw
                    case rel => exact ⟨k + 1, q + 1, G5, cg5, rfl, by go_num, by omega, by omega, Lib.hid (by rw [HNX.out, HINS.out, List.length_append, List.length_append, List.length_take, List.length_drop, hst.out]; simp only [List.length_cons, List.length_nil]; omega), Lib.hid (by rw [HNX.out, HINS.out]; exact HOW.out), HBN.out⟩
                    case measure => (simp [intOf]) <;> omega
            · have hnn : n = q := by omega
              subst hnn
              have HINS : Hid (insU out m = out.take n ++ [m] ++ out.drop n) := Lib.hid (by
                have hL : lessN out m = n := lessN_eq (by rw [hst.out]; omega) hless.out (fun h => by rw [hst.out] at h; omega)
                unfold insU; rw [hL, if_pos (Or.inl hst.out.symm)])
              clear hless
              obtain ⟨n2, hn2⟩ : ∃ n2, n + n2 = n := ⟨n - n, by omega⟩
              have hoL := hst.out
              obtain ⟨G1, hs1, hC1, hG1⟩ := slc_lo HO.out hoL (show n ≤ n by omega)
              obtain ⟨G2, c2, hs2, hC2, hG2⟩ := slc_hi (n2 := n2) HO.out hoL (by omega)
              have hL1 : (rowsV intV (out.take n)).length = n * 1 := by rw [rowsV_len (n := 1) (fun _ => rfl), List.length_take, hoL]; omega
              have hL2 : (rowsV intV (out.drop n)).length = n2 * 1 := by rw [rowsV_len (n := 1) (fun _ => rfl), List.length_drop, hoL]; omega
              obtain ⟨G9, c9, hv9, hS9, hb9, _, _, _⟩ := SlRows_own (f := intV) (n := 1) (L := out) (fun _ => rfl) (by rw [hoL]; exact HO.out)
              rw [hoL] at hv9
              have e9 : G = G9 := by injection hv9
              rw [← e9] at hS9
              clear hv9
              have HROW : Hid (∀ x, Below wo.heap.size wo x → SlRows intV 1 x G out) := Lib.hid fun x hx => hS9.below hx
              have HG1 := Lib.hid hG1
              have HG2 := Lib.hid hG2
              have HC1 := Lib.hid hC1
              have HC2 := Lib.hid hC2
              have HL1 := Lib.hid hL1
              have HL2 := Lib.hid hL2
              have hwo : wa.heap.size ≤ wo.heap.size := HBO3.out.size
              clear hG1 hG2 hC1 hC2 hL1 hL2 hS9 hb9 hoL e9
              go_upto_region 13 with (fail)
              refine wp_region_held_drew (S := (fun _ => True)) (by kernel_rfl) (by trivial) (fun hHeld => ?_)
              have hT0 : Below wo.heap.size wo wo.drew := (Below.refl _ _).drew
              generalize hdr : wo.drew = v0 at *
              clear hdr
              refine tkH 1 ⟨some 64, _, _, _, _, _⟩ ?_ rfl ?_ (by assumption) ?_
              rotate_left
              · (intro w hSw; (try dsimp only at hSw); go_simp; all_goals with_reducible rfl)
              try simp only [Act.put, sA, sB, sC]
              refine tkH 2 ⟨some 65, _, _, _, _, _⟩ ?_ rfl ?_ (by assumption) ?_
              rotate_left
              · (intro w hSw; (try dsimp only at hSw); go_simp; all_goals with_reducible rfl)
              try simp only [Act.put, sA, sB, sC]
              refine tkH 3 ⟨some 66, _, _, _, _, _⟩ ?_ rfl ?_ (by assumption) ?_
              rotate_left
              · (intro w hSw; (try dsimp only at hSw); go_simp; all_goals with_reducible rfl)
              try simp only [Act.put, sA, sB, sC]
              refine tkH 5 ⟨some 68, _, _, _, _, _⟩ ?_ rfl ?_ (by assumption) ?_
              rotate_left
              · (intro w hSw; (try dsimp only at hSw); go_simp; all_goals with_reducible rfl)
              try simp only [Act.put, sA, sB, sC]
              refine tkH 8 ⟨some 71, _, _, _, _, _⟩ ?_ rfl ?_ (by assumption) ?_
              rotate_left
              · (intro w hSw; (try dsimp only at hSw); go_simp; all_goals with_reducible rfl)
              try simp only [Act.put, sA, sB, sC]
              refine tkH 9 ⟨some 72, _, _, _, _, _⟩ ?_ rfl ?_ (by assumption) ?_
              rotate_left
              · (intro w hSw; (try dsimp only at hSw); go_simp; all_goals with_reducible rfl)
              try simp only [Act.put, sA, sB, sC]
              refine tkH 10 ⟨some 73, _, _, _, _, _⟩ ?_ rfl ?_ (by assumption) ?_
              rotate_left
              · (intro w hSw; (try dsimp only at hSw); go_simp; all_goals with_reducible rfl)
              try simp only [Act.put, sA, sB, sC]
              refine wpAnyH_ready (rs := [0, 6]) (by kernel_rfl) (by simp) ?_
              refine AllReadyH.cons rfl (fun K hK => ?_) (AllReadyH.cons rfl (fun K hK => ?_) (AllReadyH.nil))
              · skip
                go_simp
                go_wp2_with fail
                refine hK.out _ _ trivial (fun hHeld => ?_)
                clear hK K
                try simp only [Act.put, sA, sB, sC]
                obtain ⟨bz, ebz⟩ : ∃ x, v0.heap.size = x := ⟨_, rfl⟩
                generalize hq0 : v0.alloc (.cells #[] 3) = v1
                have hb0 : Below v0.heap.size v0 v1 := by rw [← hq0]; exact (Below.refl _ _).alloc (Nat.le_refl _) _
                have hT1 : Below wo.heap.size wo v1 := hT0.trans (hb0.mono hT0.size)
                have hW1 : wa.heap.size ≤ v1.heap.size := Nat.le_trans hwo hT1.size
                have HE1 : Hid (v1.ownsRow wa.heap.size 3 1 (.slice (some ⟨bz, 0, none⟩) 0 0) 0 []) := Lib.hid (own_emptyJ (by rw [← ebz]; exact Nat.le_trans hwo hT0.size) (by rw [← hq0, ← ebz]; exact allocF_at _ _))
                have hbz : wo.heap.size ≤ bz := by rw [← ebz]; exact hT0.size
                rw [ebz]
                clear hq0 hb0 hT0
                refine wpAnyH_ready (rs := [4, 6]) (by kernel_rfl) (by simp) ?_
                refine AllReadyH.cons rfl (fun K hK => ?_) (AllReadyH.cons rfl (fun K hK => ?_) (AllReadyH.nil))
                · skip
                  rw [if_pos (by kernel_rfl)]
                  have HX1 := Lib.hid (int_src (HG1.out _ (HROW.out _ hT1)))
                  refine oper_append_sl _ _ 81 rfl wa.heap.size 3 i0 (.int .i64 0) 1 8 Tryz.underlying81 HI.out HZ0.out HZ1.out HZ2.out rfl (by decide) _ 0 [] rfl HE1.out G1 n cg (rowsV intV (out.take n)) rfl HC1.out HL1.out HX1.out (rows_one intV_one _) ?d1 ?d2 hW1 ?_
                  case d1 => unfold maxLen; omega
                  case d2 => omega
                  intro r1 v2 hown hgrow hblk
                  have hT2 : Below wo.heap.size wo v2 := hT1.grown hgrow hT1.size (fun r hr => by rw [ob_some hr]; exact hbz)
                  have hW2 : wa.heap.size ≤ v2.heap.size := Nat.le_trans hwo hT2.size
                  have hown2 : v2.ownsRow wa.heap.size 3 1 r1 n (rowsV intV (out.take n)) := by
                    simpa using hown
                  have HE2 := Lib.hid hown2
                  have HF2 : Hid (∀ r, r1.ownBlock = some r → wo.heap.size ≤ r) := Lib.hid (fun r hr => (hblk r hr).elim (fun h => by rw [ob_some h]; exact hbz) (fun h => Nat.le_trans hT1.size h))
                  clear hown hown2 hgrow hblk
                  clear hT1
                  refine hK.out _ _ trivial (fun hHeld => ?_)
                  clear hK K
                  try simp only [Act.put, sA, sB, sC]
                  refine wpAnyH_ready (rs := [6]) (by kernel_rfl) (by simp) ?_
                  refine AllReadyH.cons rfl (fun K hK => ?_) (AllReadyH.nil)
                  go_simp
                  go_wp2_with fail
                  refine hK.out _ _ trivial (fun hHeld => ?_)
                  clear hK K
                  try simp only [Act.put, sA, sB, sC]
                  obtain ⟨bm, ebm⟩ : ∃ x, v2.heap.size = x := ⟨_, rfl⟩
                  generalize hq2 : v2.alloc (.cells #[.int .i64 m] 3) = v3
                  have hb2 : Below v2.heap.size v2 v3 := by rw [← hq2]; exact (Below.refl _ _).alloc (Nat.le_refl _) _
                  have hT3 : Below wo.heap.size wo v3 := hT2.trans (hb2.mono hT2.size)
                  have hW3 : wa.heap.size ≤ v3.heap.size := Nat.le_trans hwo hT3.size
                  have HM3 : Hid (v3.cell? ⟨bm, 0, none⟩ = some (.int .i64 m) ∧ bm < v3.heap.size) := Lib.hid (by rw [← hq2, ← ebm]; exact ⟨by simp [go_sem], by simp⟩)
                  have HE3 := Lib.hid (own_below HE2.out hb2 (Nat.le_refl _))
                  have HF3 := HF2
                  rw [ebm]
                  clear hq2 hb2 hT2
                  refine wpAnyH_ready (rs := [7]) (by kernel_rfl) (by simp) ?_
                  refine AllReadyH.cons rfl (fun K hK => ?_) (AllReadyH.nil)
                  rw [if_pos (by kernel_rfl)]
                  have HX3 : Hid (∀ ad : Addr, some (⟨bm, 0, none⟩ : Addr) = some ad → ∀ j u, [Value.int .i64 m][j]? = some u → v3.cell? (ad.add j) = some u) := Lib.hid (fun ad had j u hj => by cases had; match j, hj with | 0, hj => simp at hj; subst hj; exact HM3.out.1)
                  refine oper_append_sl _ _ 81 rfl wa.heap.size 3 i0 (.int .i64 0) 1 8 Tryz.underlying81 HI.out HZ0.out HZ1.out HZ2.out rfl (by decide) _ n (rowsV intV (out.take n)) rfl HE3.out (some ⟨bm, 0, none⟩) 1 1 [.int .i64 m] rfl (fun h => by cases h) rfl HX3.out (by intro u hu; simp at hu; subst hu; rfl) ?d1 ?d2 hW3 ?_
                  case d1 => unfold maxLen; omega
                  case d2 => omega
                  intro r3 v4 hown hgrow hblk
                  have hT4 : Below wo.heap.size wo v4 := hT3.grown hgrow hT3.size (fun r hr => HF3.out r hr)
                  have hW4 : wa.heap.size ≤ v4.heap.size := Nat.le_trans hwo hT4.size
                  have hown2 : v4.ownsRow wa.heap.size 3 1 r3 (n + 1) (rowsV intV (out.take n ++ [m])) := by
                    rw [rowsV_app]; exact hown
                  have HE4 := Lib.hid hown2
                  have HF4 : Hid (∀ r, r3.ownBlock = some r → wo.heap.size ≤ r) := Lib.hid (fun r hr => (hblk r hr).elim (fun h => HF3.out r h) (fun h => Nat.le_trans hT3.size h))
                  clear hown hown2 hgrow hblk
                  clear hT3
                  refine hK.out _ _ trivial (fun hHeld => ?_)
                  clear hK K
                  try simp only [Act.put, sA, sB, sC]
                  refine wpAnyH_ready (rs := [11]) (by kernel_rfl) (by simp) ?_
                  refine AllReadyH.cons rfl (fun K hK => ?_) (AllReadyH.nil)
                  rw [if_pos (by kernel_rfl)]
                  have HX4 := Lib.hid (int_src (HG2.out _ (HROW.out _ hT4)))
                  refine oper_append_sl _ _ 81 rfl wa.heap.size 3 i0 (.int .i64 0) 1 8 Tryz.underlying81 HI.out HZ0.out HZ1.out HZ2.out rfl (by decide) _ (n + 1) (rowsV intV (out.take n ++ [m])) rfl HE4.out G2 n2 c2 (rowsV intV (out.drop n)) rfl HC2.out HL2.out HX4.out (rows_one intV_one _) ?d1 ?d2 hW4 ?_
                  case d1 => unfold maxLen; omega
                  case d2 => omega
                  intro r4 v5 hown hgrow hblk
                  have hT5 : Below wo.heap.size wo v5 := hT4.grown hgrow hT4.size (fun r hr => HF4.out r hr)
                  have hW5 : wa.heap.size ≤ v5.heap.size := Nat.le_trans hwo hT5.size
                  have hown2 : v5.ownsRow wa.heap.size 3 1 r4 (n + 1) (rowsV intV (out.take n ++ [m] ++ out.drop n)) := by
                    rw [rowsV_app, show n + 1 = n + 1 + n2 by omega]; exact hown
                  have hlq : (out.take n ++ [m] ++ out.drop n).length = n + 1 := by rw [List.length_append, List.length_append, List.length_take, List.length_drop, hst.out]; simp only [List.length_cons, List.length_nil]; omega
                  obtain ⟨G5, cg5, hv5, _, _, _, _, _⟩ := SlRows_own (f := intV) (n := 1) (L := out.take n ++ [m] ++ out.drop n) (fun _ => rfl) (by rw [hlq]; exact hown2)
                  rw [hlq] at hv5
                  subst hv5
                  have HOW := Lib.hid hown2
                  have HBN : Hid (Below wa.heap.size wa v5) := Lib.hid (HBO3.out.trans (hT5.mono hwo))
                  clear hown hown2 hgrow hblk hT4 hT5
                  refine hK.out _ _ trivial (fun hHeld => ?_)
                  clear hK K
                  try simp only [Act.put, sA, sB, sC]
                  refine tkH 12 ⟨some 5, _, _, _, _, _⟩ ?_ rfl ?_ (by assumption) ?_
                  rotate_left
                  · (intro w hSw; (try dsimp only at hSw); go_simp; all_goals with_reducible rfl)
                  try simp only [Act.put, sA, sB, sC]
                  refine wpAnyH_done (by kernel_rfl) ?_ _
                  go_wp2
                  go_roundw
                  case rel => exact ⟨k + 1, n + 1, G5, cg5, rfl, by go_num, by omega, by omega, Lib.hid (by rw [HNX.out, HINS.out, List.length_append, List.length_append, List.length_take, List.length_drop, hst.out]; simp only [List.length_cons, List.length_nil]; omega), Lib.hid (by rw [HNX.out, HINS.out]; exact HOW.out), HBN.out⟩
                  case measure => (simp [intOf]) <;> omega
                · skip
                  go_simp
                  go_wp2_with fail
                  refine hK.out _ _ trivial (fun hHeld => ?_)
                  clear hK K
                  try simp only [Act.put, sA, sB, sC]
                  obtain ⟨bm, ebm⟩ : ∃ x, v1.heap.size = x := ⟨_, rfl⟩
                  generalize hq1 : v1.alloc (.cells #[.int .i64 m] 3) = v2
                  have hb1 : Below v1.heap.size v1 v2 := by rw [← hq1]; exact (Below.refl _ _).alloc (Nat.le_refl _) _
                  have hT2 : Below wo.heap.size wo v2 := hT1.trans (hb1.mono hT1.size)
                  have hW2 : wa.heap.size ≤ v2.heap.size := Nat.le_trans hwo hT2.size
                  have HM2 : Hid (v2.cell? ⟨bm, 0, none⟩ = some (.int .i64 m) ∧ bm < v2.heap.size) := Lib.hid (by rw [← hq1, ← ebm]; exact ⟨by simp [go_sem], by simp⟩)
                  have HE2 := Lib.hid (own_below HE1.out hb1 (Nat.le_refl _))
                  have nbm : bm ≠ bz := by have := (own_block HE1.out bz (by simp [Value.ownBlock])).2; omega
                  rw [ebm]
                  clear hq1 hb1 hT1
                  refine wpAnyH_ready (rs := [4]) (by kernel_rfl) (by simp) ?_
                  refine AllReadyH.cons rfl (fun K hK => ?_) (AllReadyH.nil)
                  rw [if_pos (by kernel_rfl)]
                  have HX2 := Lib.hid (int_src (HG1.out _ (HROW.out _ hT2)))
                  refine oper_append_sl _ _ 81 rfl wa.heap.size 3 i0 (.int .i64 0) 1 8 Tryz.underlying81 HI.out HZ0.out HZ1.out HZ2.out rfl (by decide) _ 0 [] rfl HE2.out G1 n cg (rowsV intV (out.take n)) rfl HC1.out HL1.out HX2.out (rows_one intV_one _) ?d1 ?d2 hW2 ?_
                  case d1 => unfold maxLen; omega
                  case d2 => omega
                  intro r2 v3 hown hgrow hblk
                  have hT3 : Below wo.heap.size wo v3 := hT2.grown hgrow hT2.size (fun r hr => by rw [ob_some hr]; exact hbz)
                  have hW3 : wa.heap.size ≤ v3.heap.size := Nat.le_trans hwo hT3.size
                  have hown2 : v3.ownsRow wa.heap.size 3 1 r2 n (rowsV intV (out.take n)) := by
                    simpa using hown
                  have HE3 := Lib.hid hown2
                  have HF3 : Hid (∀ r, r2.ownBlock = some r → wo.heap.size ≤ r) := Lib.hid (fun r hr => (hblk r hr).elim (fun h => by rw [ob_some h]; exact hbz) (fun h => Nat.le_trans hT2.size h))
                  have HM3 : Hid (v3.cell? ⟨bm, 0, none⟩ = some (.int .i64 m) ∧ bm < v3.heap.size) := Lib.hid ⟨(World.cell?_of_block (a := ⟨bm, 0, none⟩) (hgrow.block bm HM2.out.2 (fun hh => nbm (ob_some hh.symm)))).trans HM2.out.1, Nat.lt_of_lt_of_le HM2.out.2 hgrow.size⟩
                  clear hown hown2 hgrow hblk
                  clear hT2
                  refine hK.out _ _ trivial (fun hHeld => ?_)
                  clear hK K
                  try simp only [Act.put, sA, sB, sC]
                  refine wpAnyH_ready (rs := [7]) (by kernel_rfl) (by simp) ?_
                  refine AllReadyH.cons rfl (fun K hK => ?_) (AllReadyH.nil)
                  rw [if_pos (by kernel_rfl)]
                  have HX3 : Hid (∀ ad : Addr, some (⟨bm, 0, none⟩ : Addr) = some ad → ∀ j u, [Value.int .i64 m][j]? = some u → v3.cell? (ad.add j) = some u) := Lib.hid (fun ad had j u hj => by cases had; match j, hj with | 0, hj => simp at hj; subst hj; exact HM3.out.1)
                  refine oper_append_sl _ _ 81 rfl wa.heap.size 3 i0 (.int .i64 0) 1 8 Tryz.underlying81 HI.out HZ0.out HZ1.out HZ2.out rfl (by decide) _ n (rowsV intV (out.take n)) rfl HE3.out (some ⟨bm, 0, none⟩) 1 1 [.int .i64 m] rfl (fun h => by cases h) rfl HX3.out (by intro u hu; simp at hu; subst hu; rfl) ?d1 ?d2 hW3 ?_
                  case d1 => unfold maxLen; omega
                  case d2 => omega
                  intro r3 v4 hown hgrow hblk
                  have hT4 : Below wo.heap.size wo v4 := hT3.grown hgrow hT3.size (fun r hr => HF3.out r hr)
                  have hW4 : wa.heap.size ≤ v4.heap.size := Nat.le_trans hwo hT4.size
                  have hown2 : v4.ownsRow wa.heap.size 3 1 r3 (n + 1) (rowsV intV (out.take n ++ [m])) := by
                    rw [rowsV_app]; exact hown
                  have HE4 := Lib.hid hown2
                  have HF4 : Hid (∀ r, r3.ownBlock = some r → wo.heap.size ≤ r) := Lib.hid (fun r hr => (hblk r hr).elim (fun h => HF3.out r h) (fun h => Nat.le_trans hT3.size h))
                  clear hown hown2 hgrow hblk
                  clear hT3
                  refine hK.out _ _ trivial (fun hHeld => ?_)
                  clear hK K
                  try simp only [Act.put, sA, sB, sC]
                  refine wpAnyH_ready (rs := [11]) (by kernel_rfl) (by simp) ?_
                  refine AllReadyH.cons rfl (fun K hK => ?_) (AllReadyH.nil)
                  rw [if_pos (by kernel_rfl)]
                  have HX4 := Lib.hid (int_src (HG2.out _ (HROW.out _ hT4)))
                  refine oper_append_sl _ _ 81 rfl wa.heap.size 3 i0 (.int .i64 0) 1 8 Tryz.underlying81 HI.out HZ0.out HZ1.out HZ2.out rfl (by decide) _ (n + 1) (rowsV intV (out.take n ++ [m])) rfl HE4.out G2 n2 c2 (rowsV intV (out.drop n)) rfl HC2.out HL2.out HX4.out (rows_one intV_one _) ?d1 ?d2 hW4 ?_
                  case d1 => unfold maxLen; omega
                  case d2 => omega
                  intro r4 v5 hown hgrow hblk
                  have hT5 : Below wo.heap.size wo v5 := hT4.grown hgrow hT4.size (fun r hr => HF4.out r hr)
                  have hW5 : wa.heap.size ≤ v5.heap.size := Nat.le_trans hwo hT5.size
                  have hown2 : v5.ownsRow wa.heap.size 3 1 r4 (n + 1) (rowsV intV (out.take n ++ [m] ++ out.drop n)) := by
                    rw [rowsV_app, show n + 1 = n + 1 + n2 by omega]; exact hown
                  have hlq : (out.take n ++ [m] ++ out.drop n).length = n + 1 := by rw [List.length_append, List.length_append, List.length_take, List.length_drop, hst.out]; simp only [List.length_cons, List.length_nil]; omega
                  obtain ⟨G5, cg5, hv5, _, _, _, _, _⟩ := SlRows_own (f := intV) (n := 1) (L := out.take n ++ [m] ++ out.drop n) (fun _ => rfl) (by rw [hlq]; exact hown2)
                  rw [hlq] at hv5
                  subst hv5
                  have HOW := Lib.hid hown2
                  have HBN : Hid (Below wa.heap.size wa v5) := Lib.hid (HBO3.out.trans (hT5.mono hwo))
                  clear hown hown2 hgrow hblk hT4 hT5
                  refine hK.out _ _ trivial (fun hHeld => ?_)
                  clear hK K
                  try simp only [Act.put, sA, sB, sC]
                  refine tkH 12 ⟨some 5, _, _, _, _, _⟩ ?_ rfl ?_ (by assumption) ?_
                  rotate_left
                  · (intro w hSw; (try dsimp only at hSw); go_simp; all_goals with_reducible rfl)
                  try simp only [Act.put, sA, sB, sC]
                  refine wpAnyH_done (by kernel_rfl) ?_ _
                  go_wp2
                  go_roundw
                  case rel => exact ⟨k + 1, n + 1, G5, cg5, rfl, by go_num, by omega, by omega, Lib.hid (by rw [HNX.out, HINS.out, List.length_append, List.length_append, List.length_take, List.length_drop, hst.out]; simp only [List.length_cons, List.length_nil]; omega), Lib.hid (by rw [HNX.out, HINS.out]; exact HOW.out), HBN.out⟩
                  case measure => (simp [intOf]) <;> omega
              · skip
                go_simp
                go_wp2_with fail
                refine hK.out _ _ trivial (fun hHeld => ?_)
                clear hK K
                try simp only [Act.put, sA, sB, sC]
                obtain ⟨bm, ebm⟩ : ∃ x, v0.heap.size = x := ⟨_, rfl⟩
                generalize hq0 : v0.alloc (.cells #[.int .i64 m] 3) = v1
                have hb0 : Below v0.heap.size v0 v1 := by rw [← hq0]; exact (Below.refl _ _).alloc (Nat.le_refl _) _
                have hT1 : Below wo.heap.size wo v1 := hT0.trans (hb0.mono hT0.size)
                have hW1 : wa.heap.size ≤ v1.heap.size := Nat.le_trans hwo hT1.size
                have HM1 : Hid (v1.cell? ⟨bm, 0, none⟩ = some (.int .i64 m) ∧ bm < v1.heap.size) := Lib.hid (by rw [← hq0, ← ebm]; exact ⟨by simp [go_sem], by simp⟩)
                rw [ebm]
                clear hq0 hb0 hT0
                refine wpAnyH_ready (rs := [0]) (by kernel_rfl) (by simp) ?_
                refine AllReadyH.cons rfl (fun K hK => ?_) (AllReadyH.nil)
                go_simp
                go_wp2_with fail
                refine hK.out _ _ trivial (fun hHeld => ?_)
                clear hK K
                try simp only [Act.put, sA, sB, sC]
                obtain ⟨bz, ebz⟩ : ∃ x, v1.heap.size = x := ⟨_, rfl⟩
                generalize hq1 : v1.alloc (.cells #[] 3) = v2
                have hb1 : Below v1.heap.size v1 v2 := by rw [← hq1]; exact (Below.refl _ _).alloc (Nat.le_refl _) _
                have hT2 : Below wo.heap.size wo v2 := hT1.trans (hb1.mono hT1.size)
                have hW2 : wa.heap.size ≤ v2.heap.size := Nat.le_trans hwo hT2.size
                have HE2 : Hid (v2.ownsRow wa.heap.size 3 1 (.slice (some ⟨bz, 0, none⟩) 0 0) 0 []) := Lib.hid (own_emptyJ (by rw [← ebz]; exact Nat.le_trans hwo hT1.size) (by rw [← hq1, ← ebz]; exact allocF_at _ _))
                have hbz : wo.heap.size ≤ bz := by rw [← ebz]; exact hT1.size
                have nbm : bm ≠ bz := by have := HM1.out.2; omega
                have HM2 : Hid (v2.cell? ⟨bm, 0, none⟩ = some (.int .i64 m) ∧ bm < v2.heap.size) := Lib.hid ⟨(hb1.cell (p := ⟨bm, 0, none⟩) HM1.out.2).trans HM1.out.1, Nat.lt_of_lt_of_le HM1.out.2 hb1.size⟩
                rw [ebz]
                clear hq1 hb1 hT1
                refine wpAnyH_ready (rs := [4]) (by kernel_rfl) (by simp) ?_
                refine AllReadyH.cons rfl (fun K hK => ?_) (AllReadyH.nil)
                rw [if_pos (by kernel_rfl)]
                have HX2 := Lib.hid (int_src (HG1.out _ (HROW.out _ hT2)))
                refine oper_append_sl _ _ 81 rfl wa.heap.size 3 i0 (.int .i64 0) 1 8 Tryz.underlying81 HI.out HZ0.out HZ1.out HZ2.out rfl (by decide) _ 0 [] rfl HE2.out G1 n cg (rowsV intV (out.take n)) rfl HC1.out HL1.out HX2.out (rows_one intV_one _) ?d1 ?d2 hW2 ?_
                case d1 => unfold maxLen; omega
                case d2 => omega
                intro r2 v3 hown hgrow hblk
                have hT3 : Below wo.heap.size wo v3 := hT2.grown hgrow hT2.size (fun r hr => by rw [ob_some hr]; exact hbz)
                have hW3 : wa.heap.size ≤ v3.heap.size := Nat.le_trans hwo hT3.size
                have hown2 : v3.ownsRow wa.heap.size 3 1 r2 n (rowsV intV (out.take n)) := by
                  simpa using hown
                have HE3 := Lib.hid hown2
                have HF3 : Hid (∀ r, r2.ownBlock = some r → wo.heap.size ≤ r) := Lib.hid (fun r hr => (hblk r hr).elim (fun h => by rw [ob_some h]; exact hbz) (fun h => Nat.le_trans hT2.size h))
                have HM3 : Hid (v3.cell? ⟨bm, 0, none⟩ = some (.int .i64 m) ∧ bm < v3.heap.size) := Lib.hid ⟨(World.cell?_of_block (a := ⟨bm, 0, none⟩) (hgrow.block bm HM2.out.2 (fun hh => nbm (ob_some hh.symm)))).trans HM2.out.1, Nat.lt_of_lt_of_le HM2.out.2 hgrow.size⟩
                clear hown hown2 hgrow hblk
                clear hT2
                refine hK.out _ _ trivial (fun hHeld => ?_)
                clear hK K
                try simp only [Act.put, sA, sB, sC]
                refine wpAnyH_ready (rs := [7]) (by kernel_rfl) (by simp) ?_
                refine AllReadyH.cons rfl (fun K hK => ?_) (AllReadyH.nil)
                rw [if_pos (by kernel_rfl)]
                have HX3 : Hid (∀ ad : Addr, some (⟨bm, 0, none⟩ : Addr) = some ad → ∀ j u, [Value.int .i64 m][j]? = some u → v3.cell? (ad.add j) = some u) := Lib.hid (fun ad had j u hj => by cases had; match j, hj with | 0, hj => simp at hj; subst hj; exact HM3.out.1)
                refine oper_append_sl _ _ 81 rfl wa.heap.size 3 i0 (.int .i64 0) 1 8 Tryz.underlying81 HI.out HZ0.out HZ1.out HZ2.out rfl (by decide) _ n (rowsV intV (out.take n)) rfl HE3.out (some ⟨bm, 0, none⟩) 1 1 [.int .i64 m] rfl (fun h => by cases h) rfl HX3.out (by intro u hu; simp at hu; subst hu; rfl) ?d1 ?d2 hW3 ?_
                case d1 => unfold maxLen; omega
                case d2 => omega
                intro r3 v4 hown hgrow hblk
                have hT4 : Below wo.heap.size wo v4 := hT3.grown hgrow hT3.size (fun r hr => HF3.out r hr)
                have hW4 : wa.heap.size ≤ v4.heap.size := Nat.le_trans hwo hT4.size
                have hown2 : v4.ownsRow wa.heap.size 3 1 r3 (n + 1) (rowsV intV (out.take n ++ [m])) := by
                  rw [rowsV_app]; exact hown
                have HE4 := Lib.hid hown2
                have HF4 : Hid (∀ r, r3.ownBlock = some r → wo.heap.size ≤ r) := Lib.hid (fun r hr => (hblk r hr).elim (fun h => HF3.out r h) (fun h => Nat.le_trans hT3.size h))
                clear hown hown2 hgrow hblk
                clear hT3
                refine hK.out _ _ trivial (fun hHeld => ?_)
                clear hK K
                try simp only [Act.put, sA, sB, sC]
                refine wpAnyH_ready (rs := [11]) (by kernel_rfl) (by simp) ?_
                refine AllReadyH.cons rfl (fun K hK => ?_) (AllReadyH.nil)
                rw [if_pos (by kernel_rfl)]
                have HX4 := Lib.hid (int_src (HG2.out _ (HROW.out _ hT4)))
                refine oper_append_sl _ _ 81 rfl wa.heap.size 3 i0 (.int .i64 0) 1 8 Tryz.underlying81 HI.out HZ0.out HZ1.out HZ2.out rfl (by decide) _ (n + 1) (rowsV intV (out.take n ++ [m])) rfl HE4.out G2 n2 c2 (rowsV intV (out.drop n)) rfl HC2.out HL2.out HX4.out (rows_one intV_one _) ?d1 ?d2 hW4 ?_
                case d1 => unfold maxLen; omega
                case d2 => omega
                intro r4 v5 hown hgrow hblk
                have hT5 : Below wo.heap.size wo v5 := hT4.grown hgrow hT4.size (fun r hr => HF4.out r hr)
                have hW5 : wa.heap.size ≤ v5.heap.size := Nat.le_trans hwo hT5.size
                have hown2 : v5.ownsRow wa.heap.size 3 1 r4 (n + 1) (rowsV intV (out.take n ++ [m] ++ out.drop n)) := by
                  rw [rowsV_app, show n + 1 = n + 1 + n2 by omega]; exact hown
                have hlq : (out.take n ++ [m] ++ out.drop n).length = n + 1 := by rw [List.length_append, List.length_append, List.length_take, List.length_drop, hst.out]; simp only [List.length_cons, List.length_nil]; omega
                obtain ⟨G5, cg5, hv5, _, _, _, _, _⟩ := SlRows_own (f := intV) (n := 1) (L := out.take n ++ [m] ++ out.drop n) (fun _ => rfl) (by rw [hlq]; exact hown2)
                rw [hlq] at hv5
                subst hv5
                have HOW := Lib.hid hown2
                have HBN : Hid (Below wa.heap.size wa v5) := Lib.hid (HBO3.out.trans (hT5.mono hwo))
                clear hown hown2 hgrow hblk hT4 hT5
                refine hK.out _ _ trivial (fun hHeld => ?_)
                clear hK K
                try simp only [Act.put, sA, sB, sC]
                refine tkH 12 ⟨some 5, _, _, _, _, _⟩ ?_ rfl ?_ (by assumption) ?_
                rotate_left
                · (intro w hSw; (try dsimp only at hSw); go_simp; all_goals with_reducible rfl)
                try simp only [Act.put, sA, sB, sC]
                refine wpAnyH_done (by kernel_rfl) ?_ _
                go_wp2
                go_roundw
                case rel => exact ⟨k + 1, n + 1, G5, cg5, rfl, by go_num, by omega, by omega, Lib.hid (by rw [HNX.out, HINS.out, List.length_append, List.length_append, List.length_take, List.length_drop, hst.out]; simp only [List.length_cons, List.length_nil]; omega), Lib.hid (by rw [HNX.out, HINS.out]; exact HOW.out), HBN.out⟩
                case measure => (simp [intOf]) <;> omega
        · have hkk : k = 2 := by omega
          subst hkk
          have HE2 : Hid (stpL (mks ((LA ++ LB).take (j + 1))) = stpL (M ++ [ul, uh + 1].take 2)) := Lib.hid (by rw [HMS.out]; rfl)
          go_wp2
          go_roundw
          case rel => exact ⟨j + 1, q, G, cg, rfl, by go_num, by omega, q60, Lib.hid (by rw [HE2.out]; exact hst.out), Lib.hid (by rw [HE2.out]; exact HO.out), hB3⟩
          case measure => (simp [intOf]) <;> omega
    · have hjj : j = N := by omega
      have hT : (LA ++ LB).take j = LA ++ LB := by rw [hjj, ← hLN.out, List.take_length]
      have hO := HO.out
      have hs2 := hst.out
      rw [hT] at hO hs2
      obtain ⟨G5, cg5, hv5, hS5, _, _, _, _⟩ := SlRows_own (f := intV) (n := 1) (L := stpL (mks (LA ++ LB))) (fun _ => rfl) (by rw [hs2]; exact hO)
      rw [hs2] at hv5
      injection hv5 with e1 _ e3
      subst e1 e3
      have HS5 := Lib.hid hS5
      have HQ := Lib.hid hs2
      have hBw : Below w.heap.size w wr := HB2.out.trans (hB.mono HB2.out.size)
      clear hT hO hs2 hS5 hjj
      go_wp2
      go_ret
      exact ⟨G, cg, by rw [HQ.out]; rfl, HS5.out, hBw⟩
end Go.Proofs.YtojaompfffpofaaGreat
