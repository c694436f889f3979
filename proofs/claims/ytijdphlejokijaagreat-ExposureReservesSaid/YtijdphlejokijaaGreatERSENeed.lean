import Derived.Test.YtijdphlejokijaaGreatERSELgp
import Derived.Test.YtijdphlejokijaaGreatERSECons
import Derived.OrdersHeld
import Derived.Deep.RegionHeld
import Derived.Outline
namespace Go.Proofs.YtijdphlejokijaaGreat
open Go.Shelf Go.ChangeShapes Go.WideShapes Go.ChangeAt Go.RowKit
set_option linter.unusedVariables false
set_option linter.unusedSimpArgs false
attribute [local go_sem ↓] Go.wp_at_zero Go.wp_at_succ
attribute [local go_sem] Oper.semAt_some
/-- Where a leg ends. -/
def endC (s : Int) (G : List Ga) (D : List Le) (k : Nat) : Int := (legC s G D k).bs + (legC s G D k).s
theorem BlkF.base0' {u : World} {B b : Nat} {vs : List Value} (h : BlkF u B b vs) : BlkF u 0 b vs := ⟨Nat.zero_le _, h.lt, h.at', h.fz⟩
theorem BlkF.low {u u' : World} {B b N : Nat} {vs : List Value} (h : BlkF u B b vs) (hb : Below N u u') (hN : b < N) : BlkF u' B b vs :=
  ⟨h.ge, Nat.lt_of_lt_of_le h.lt hb.size, fun i v hv => (hb.cell (p := ⟨b, i, none⟩) hN).trans (h.at' i v hv), fun j => (hb.frozen (p := ⟨b, j, none⟩) hN).trans (h.fz j)⟩
theorem BlkF.set1 {u : World} {B b i : Nat} {vs : List Value} (h : BlkF u B b vs) (hi : i < vs.length) (v : Value) : BlkF (u.setCell ⟨b, i, none⟩ v) B b (vs.set i v) := by
  refine ⟨h.ge, by simpa using h.lt, fun j x hj => ?_, fun j => (World.frozen?_setCell _ _ _ _).trans (h.fz j)⟩
  rw [List.getElem?_set] at hj
  by_cases e : i = j
  · subst e
    rw [if_pos rfl, if_pos hi] at hj
    cases hj
    exact cell_sameB (h.at' i _ (List.getElem?_eq_getElem hi))
  · rw [if_neg e] at hj
    rw [cell_offB e]
    exact h.at' j x hj
theorem SlK.cons {α : Type} {f : α → List Value} {n : Nat} {w : World} {bs : List Nat} {A : Option Addr} {L : List α} {c : Nat} (h : SlK f n w bs A L) : SlK f n w (c :: bs) A L := h.imp id fun ⟨b, off, e, hm, hl, hR⟩ => ⟨b, off, e, List.mem_cons_of_mem _ hm, hl, hR⟩
set_option maxRecDepth 100000 in
set_option maxHeartbeats 8000000 in
theorem needs_once (n : Nat) (hn : 5 ≤ n) (bs : List Nat) (fb sb rb : Nat) (nm : ByteArray) (s : Int) (G : List Ga) (D : List Le) (A B P : Option Addr) (gn gc dn dc pc : Nat) (E9 : Int) (T : List Ox) (r : Ru) (AT : Option Addr) (tn tc : Nat) (t am : Int) (kk gk : Nat) (w : World) (hgn : Hid (gn = G.length)) (hdn : Hid (dn = D.length)) (hok : Hid (PlnOk nm s G D)) (hru : Hid (RuOk T r)) (hshort : Hid (∀ k, (legC s G D k).s ≤ 20000))
    (hM : FolM bs fb nm s G D A B P gn gc dn dc pc E9 w) (hbsw : ∀ b ∈ bs, b < w.heap.size) (hSb : BlkF w 0 sb [.int .i64 t]) (hRb : BlkF w 0 rb [.slice AT tn tc, .int .i64 r.a, .int .i64 r.b, .int .i64 r.nc, .int .i64 r.dn, .int .i64 r.br, .int .i64 r.em, .int .i64 r.pa, .int .i64 r.sc]) (htn : Hid (tn = T.length)) (hTT : Hid (SlRows oxV 2 w AT T)) (hkk : kk < dn) (t0 : 0 ≤ t) (t1 : t ≤ 20000) (hbefore : Hid (∀ j, j < kk → endC s G D j < t)) (hbeg : Hid ((legC s G D kk).bs ≤ t)) (hend : Hid (t ≤ endC s G D kk)) (hgk : Hid ((legC s G D kk).g = gk))
    (ham : Hid ((conA r.br (legC s G D) gn (List.range kk)).getD gk 0 + nedV (legC s G D kk) r (t - (legC s G D kk).bs) = am)) :
    SeqP (n - 1 - 1 - 1) n Tryz.prog 59 #[.pointer (some ⟨sb, 0, none⟩), .pointer (some ⟨fb, 0, none⟩), .pointer (some ⟨rb, 0, none⟩)] (fun _ => #[.int .i64 gk, .agg #[.int .i64 am, .int .i64 t]]) (fun _ _ => False) 1 w := by
  intro l J Jx W hW hJ hJx hJB hY h0
  replace hM := hM.below hW
  replace hSb := hSb.below hW
  replace hRb := hRb.below hW
  replace hTT := Lib.hid (hTT.out.below hW)
  replace hbsw : ∀ b ∈ bs, b < W.heap.size := fun b hb => Nat.lt_of_lt_of_le (hbsw b hb) hW.size
  have g8 : gn ≤ 8 := by have := hok.out.g8; have := hgn.out; omega
  have g1 : 1 ≤ gn := by have := hok.out.g0; have := hgn.out; omega
  have d60 : dn ≤ 60 := by have := hok.out.d6; have := hdn.out; omega
  refine callsIn_of_wp_marks Tryz.func59 rfl trivial ?_ rfl
  simp only [Tryz.ntmps59, List.size_toArray, List.length_cons, List.length_nil, Nat.reduceAdd, Nat.reduceSub, Array.replicate_succ, Array.replicate_zero, List.push_toArray, List.append_toArray, List.nil_append, List.cons_append]
  have hyb := BlkF.made (B := W.heap.size) W [.func (.yield l) #[] #[]] 114 (Nat.le_refl _)
  gi_upto_region 1 with (fail)
  gi_cut [5, 6] from 9 (fun s5 s6 wc => ∃ ab bb mb, s5 = .pointer (some ⟨ab, 0, none⟩) ∧ s6 = .pointer (some ⟨bb, 0, none⟩) ∧ ab ≠ bb ∧ ab ≠ mb ∧ bb ≠ mb ∧ W.heap.size + 1 ≤ ab ∧ W.heap.size + 1 ≤ bb ∧ W.heap.size + 1 ≤ mb ∧ BlkF wc (W.heap.size + 1) ab [.int .i64 t] ∧ BlkF wc (W.heap.size + 1) bb [.slice (some ⟨mb, 0, none⟩) gn gn] ∧ BlkF wc (W.heap.size + 1) mb (List.replicate gn (.int .i64 0)) ∧ Below (W.heap.size + 1) (W.alloc (.cells #[.func (.yield l) #[] #[]] 114)) wc)
  case first =>
    refine wpIn_np ?_
    refine wpIn_wide.2 ?_
    have l0 := hSb.lt
    have l1 := hM.fl
    have e0 := b1 hSb
    have e1 := hM.c2
    obtain ⟨u, hu⟩ : ∃ u, W.alloc (.cells #[.func (.yield l) #[] #[]] 114) = u := ⟨_, rfl⟩
    have hbu : Below W.heap.size W u := by rw [← hu]; exact (Below.refl _ _).alloc (Nat.le_refl _) _
    have hz : u.heap.size = W.heap.size + 1 := by rw [← hu]; simp
    rw [hu]
    replace e0 := (hbu.cell (p := ⟨sb, 0, none⟩) l0).trans e0
    replace e1 := (hbu.cell (p := ⟨fb, 2, none⟩) l1).trans e1
    replace l0 : sb < u.heap.size := by omega
    replace l1 : fb < u.heap.size := by omega
    have HU := Lib.hid hu
    clear hu hyb hM hSb hRb hJ hJx hJB hY h0 hTT
    have HS : Hid (∀ y, Below u.heap.size u y → y.cell? ⟨sb, 0, none⟩ = some (.int .i64 t) ∧ y.cell? ⟨fb, 2, none⟩ = some (.slice A gn gc)) := Lib.hid fun y hy => ⟨(hy.cell (p := ⟨sb, 0, none⟩) l0).trans e0, (hy.cell (p := ⟨fb, 2, none⟩) l1).trans e1⟩
    clear e0 e1
    refine wp_region_held_drew (S := (fun w' => w'.cell? ⟨sb, 0, none⟩ = some (.int .i64 t) ∧ w'.cell? ⟨fb, 2, none⟩ = some (.slice A gn gc))) (by kernel_rfl) (HS.out _ (Below.refl _ _).drew) (fun hHeld => ?_)
    have hT0 : Below u.heap.size u u.drew := (Below.refl _ _).drew
    generalize hdr : u.drew = v0 at *
    clear hdr
    refine tkH 0 ⟨some 9, _, _, _, _, _⟩ ?_ rfl ?_ (by assumption) ?_
    rotate_left
    · (intro w hSw; (try dsimp only at hSw); go_simp; all_goals with_reducible rfl)
    try simp only [Act.put, sA, sB, sC]
    refine tkH 1 ⟨some 10, _, _, _, _, _⟩ ?_ rfl ?_ (by assumption) ?_
    rotate_left
    · (intro w hSw; (try dsimp only at hSw); go_simp; all_goals with_reducible rfl)
    try simp only [Act.put, sA, sB, sC]
    refine tkH 2 ⟨some 11, _, _, _, _, _⟩ ?_ rfl ?_ (by assumption) ?_
    rotate_left
    · (intro w hSw; (try dsimp only at hSw); go_simp; all_goals with_reducible rfl)
    try simp only [Act.put, sA, sB, sC]
    refine tkH 3 ⟨some 12, _, _, _, _, _⟩ ?_ rfl ?_ (by assumption) ?_
    rotate_left
    · (intro w hSw; (try dsimp only at hSw); go_simp; all_goals with_reducible rfl)
    try simp only [Act.put, sA, sB, sC]
    refine tkH 4 ⟨some 13, _, _, _, _, _⟩ ?_ rfl ?_ (by assumption) ?_
    rotate_left
    · (intro w hSw; (try dsimp only at hSw); go_simp; all_goals with_reducible rfl)
    try simp only [Act.put, sA, sB, sC]
    refine wpAnyH_ready (rs := [5, 6, 7]) (by kernel_rfl) (by simp) ?_
    refine AllReadyH.cons rfl (fun K hK => ?_) (AllReadyH.cons rfl (fun K hK => ?_) (AllReadyH.cons rfl (fun K hK => ?_) (AllReadyH.nil)))
    · skip
      have hmk := fun (w : World) => mkIn8 g1 g8 w
      go_simp
      go_wp2_with fail
      refine hK.out _ _ (HS.out _ (hT0.alloc hT0.size _)) (fun hHeld => ?_)
      clear hK K
      try simp only [Act.put, sA, sB, sC]
      clear hmk
      have HNmb := Lib.hid (BlkF.made (B := u.heap.size) v0 (List.replicate gn (.int .i64 0)) 3 hT0.size)
      have hbv0 : Below v0.heap.size v0 (v0.alloc (.cells (Array.replicate gn (.int .i64 0)) 3)) := (Below.refl _ _).alloc (Nat.le_refl _) _
      have hnmb : u.heap.size ≤ v0.heap.size := hT0.size
      have exmb : ∃ x, v0.heap.size = x := ⟨_, rfl⟩
      replace HNmb : Hid (BlkF (v0.alloc (.cells (Array.replicate gn (.int .i64 0)) 3)) u.heap.size v0.heap.size (List.replicate gn (.int .i64 0))) := HNmb
      generalize hq0 : v0.alloc (.cells (Array.replicate gn (.int .i64 0)) 3) = v1 at *
      have hT1 : Below u.heap.size u v1 := hT0.trans (hbv0.mono hT0.size)
      obtain ⟨mb, emb⟩ := exmb
      rw [emb] at HNmb hnmb ⊢
      clear hbv0 hq0
      refine wpAnyH_ready (rs := [6, 7]) (by kernel_rfl) (by simp) ?_
      refine AllReadyH.cons rfl (fun K hK => ?_) (AllReadyH.cons rfl (fun K hK => ?_) (AllReadyH.nil))
      · skip
        go_simp
        go_wp2_with fail
        refine hK.out _ _ (HS.out _ (hT1.alloc hT1.size _)) (fun hHeld => ?_)
        clear hK K
        try simp only [Act.put, sA, sB, sC]
        have HNab := Lib.hid (BlkF.made (B := u.heap.size) v1 [.int .i64 0] 3 hT1.size)
        have hbv1 : Below v1.heap.size v1 (v1.alloc (.cells #[.int .i64 0] 3)) := (Below.refl _ _).alloc (Nat.le_refl _) _
        have hdabmb : mb < v1.heap.size := HNmb.out.lt
        replace HNmb := Lib.hid (HNmb.out.below hbv1)
        have hnab : u.heap.size ≤ v1.heap.size := hT1.size
        have exab : ∃ x, v1.heap.size = x := ⟨_, rfl⟩
        generalize hq1 : v1.alloc (.cells #[.int .i64 0] 3) = v2 at *
        have hT2 : Below u.heap.size u v2 := hT1.trans (hbv1.mono hT1.size)
        obtain ⟨ab, eab⟩ := exab
        rw [eab] at HNab hnab ⊢
        clear hbv1 hq1
        rw [eab] at hdabmb
        refine wpAnyH_ready (rs := [7]) (by kernel_rfl) (by simp) ?_
        refine AllReadyH.cons rfl (fun K hK => ?_) (AllReadyH.nil)
        go_simp
        go_wp2_with fail
        refine hK.out _ _ (HS.out _ (hT2.alloc hT2.size _)) (fun hHeld => ?_)
        clear hK K
        try simp only [Act.put, sA, sB, sC]
        have HNbb := Lib.hid (BlkF.made (B := u.heap.size) v2 [.slice none 0 0] 42 hT2.size)
        have hbv2 : Below v2.heap.size v2 (v2.alloc (.cells #[.slice none 0 0] 42)) := (Below.refl _ _).alloc (Nat.le_refl _) _
        have hdbbmb : mb < v2.heap.size := HNmb.out.lt
        have hdbbab : ab < v2.heap.size := HNab.out.lt
        replace HNmb := Lib.hid (HNmb.out.below hbv2)
        replace HNab := Lib.hid (HNab.out.below hbv2)
        have hnbb : u.heap.size ≤ v2.heap.size := hT2.size
        have exbb : ∃ x, v2.heap.size = x := ⟨_, rfl⟩
        generalize hq2 : v2.alloc (.cells #[.slice none 0 0] 42) = v3 at *
        have hT3 : Below u.heap.size u v3 := hT2.trans (hbv2.mono hT2.size)
        obtain ⟨bb, ebb⟩ := exbb
        rw [ebb] at HNbb hnbb ⊢
        clear hbv2 hq2
        rw [ebb] at hdbbmb
        rw [ebb] at hdbbab
        refine wpAnyH_ready (rs := [8]) (by kernel_rfl) (by simp) ?_
        refine AllReadyH.cons rfl (fun K hK => ?_) (AllReadyH.nil)
        have HBs : Hid (BlkF (v3.setCell ⟨ab, 0, none⟩ (.int .i64 t)) u.heap.size ab [.int .i64 t]) := Lib.hid (BlkF.st (vs' := [.int .i64 t]) HNab.out rfl)
        have hTs : Below u.heap.size u (v3.setCell ⟨ab, 0, none⟩ (.int .i64 t)) := stW_below HNab.out.ge [.int .i64 t] v3 0 hT3
        have u_0 := b1 HNab.out
        have u_f := HNab.out.fz
        go_simp
        go_wp2_with fail
        refine hK.out _ _ (HS.out _ hTs) (fun hHeld => ?_)
        clear hK K
        try simp only [Act.put, sA, sB, sC]
        clear u_f u_0
        have H2HNmb : Hid (BlkF (v3.setCell ⟨ab, 0, none⟩ (.int .i64 t)) u.heap.size mb _) := Lib.hid (HNmb.out.other (c := ab) (i := 0) (l := [.int .i64 t]) (by have := HNmb.out.lt; omega))
        have H2HNbb : Hid (BlkF (v3.setCell ⟨ab, 0, none⟩ (.int .i64 t)) u.heap.size bb _) := Lib.hid (HNbb.out.other (c := ab) (i := 0) (l := [.int .i64 t]) (by have := HNbb.out.lt; omega))
        clear HNab
        generalize hs3 : (v3.setCell ⟨ab, 0, none⟩ (.int .i64 t)) = v4 at *
        clear hs3
        have hT4 := hTs
        clear hTs
        have HNab := HBs
        clear HBs
        replace HNmb := H2HNmb
        replace HNbb := H2HNbb
        refine wpAnyH_ready (rs := [9]) (by kernel_rfl) (by simp) ?_
        refine AllReadyH.cons rfl (fun K hK => ?_) (AllReadyH.nil)
        have HBs : Hid (BlkF (v4.setCell ⟨bb, 0, none⟩ (.slice (some ⟨mb, 0, none⟩) gn gn)) u.heap.size bb [.slice (some ⟨mb, 0, none⟩) gn gn]) := Lib.hid (BlkF.st (vs' := [.slice (some ⟨mb, 0, none⟩) gn gn]) HNbb.out rfl)
        have hTs : Below u.heap.size u (v4.setCell ⟨bb, 0, none⟩ (.slice (some ⟨mb, 0, none⟩) gn gn)) := stW_below HNbb.out.ge [.slice (some ⟨mb, 0, none⟩) gn gn] v4 0 hT4
        have u_0 := b1 HNbb.out
        have u_f := HNbb.out.fz
        go_simp
        go_wp2_with fail
        refine hK.out _ _ (HS.out _ hTs) (fun hHeld => ?_)
        clear hK K
        try simp only [Act.put, sA, sB, sC]
        clear u_f u_0
        have H2HNmb : Hid (BlkF (v4.setCell ⟨bb, 0, none⟩ (.slice (some ⟨mb, 0, none⟩) gn gn)) u.heap.size mb _) := Lib.hid (HNmb.out.other (c := bb) (i := 0) (l := [.slice (some ⟨mb, 0, none⟩) gn gn]) (by have := HNmb.out.lt; omega))
        have H2HNab : Hid (BlkF (v4.setCell ⟨bb, 0, none⟩ (.slice (some ⟨mb, 0, none⟩) gn gn)) u.heap.size ab _) := Lib.hid (HNab.out.other (c := bb) (i := 0) (l := [.slice (some ⟨mb, 0, none⟩) gn gn]) (by have := HNab.out.lt; omega))
        clear HNbb
        generalize hs4 : (v4.setCell ⟨bb, 0, none⟩ (.slice (some ⟨mb, 0, none⟩) gn gn)) = v5 at *
        clear hs4
        have hT5 := hTs
        clear hTs
        have HNbb := HBs
        clear HBs
        replace HNmb := H2HNmb
        replace HNab := H2HNab
        refine wpAnyH_done (by kernel_rfl) ?_ _
        clear HS hHeld
        have ge1 := HNab.out.ge
        have ge2 := HNbb.out.ge
        have ge3 := HNmb.out.ge
        go_wp2_with fail
        gi_meet
        exact ⟨ab, bb, mb, rfl, rfl, by omega, by omega, by omega, by omega, by omega, by omega, by rw [← hz]; exact HNab.out, by rw [← hz]; exact HNbb.out, by rw [← hz]; exact HNmb.out, by rw [← hz, HU.out]; exact hT5⟩
      · skip
        go_simp
        go_wp2_with fail
        refine hK.out _ _ (HS.out _ (hT1.alloc hT1.size _)) (fun hHeld => ?_)
        clear hK K
        try simp only [Act.put, sA, sB, sC]
        have HNbb := Lib.hid (BlkF.made (B := u.heap.size) v1 [.slice none 0 0] 42 hT1.size)
        have hbv1 : Below v1.heap.size v1 (v1.alloc (.cells #[.slice none 0 0] 42)) := (Below.refl _ _).alloc (Nat.le_refl _) _
        have hdbbmb : mb < v1.heap.size := HNmb.out.lt
        replace HNmb := Lib.hid (HNmb.out.below hbv1)
        have hnbb : u.heap.size ≤ v1.heap.size := hT1.size
        have exbb : ∃ x, v1.heap.size = x := ⟨_, rfl⟩
        generalize hq1 : v1.alloc (.cells #[.slice none 0 0] 42) = v2 at *
        have hT2 : Below u.heap.size u v2 := hT1.trans (hbv1.mono hT1.size)
        obtain ⟨bb, ebb⟩ := exbb
        rw [ebb] at HNbb hnbb ⊢
        clear hbv1 hq1
        rw [ebb] at hdbbmb
        refine wpAnyH_ready (rs := [6]) (by kernel_rfl) (by simp) ?_
        refine AllReadyH.cons rfl (fun K hK => ?_) (AllReadyH.nil)
        go_simp
        go_wp2_with fail
        refine hK.out _ _ (HS.out _ (hT2.alloc hT2.size _)) (fun hHeld => ?_)
        clear hK K
        try simp only [Act.put, sA, sB, sC]
        have HNab := Lib.hid (BlkF.made (B := u.heap.size) v2 [.int .i64 0] 3 hT2.size)
        have hbv2 : Below v2.heap.size v2 (v2.alloc (.cells #[.int .i64 0] 3)) := (Below.refl _ _).alloc (Nat.le_refl _) _
        have hdabmb : mb < v2.heap.size := HNmb.out.lt
        have hdabbb : bb < v2.heap.size := HNbb.out.lt
        replace HNmb := Lib.hid (HNmb.out.below hbv2)
        replace HNbb := Lib.hid (HNbb.out.below hbv2)
        have hnab : u.heap.size ≤ v2.heap.size := hT2.size
        have exab : ∃ x, v2.heap.size = x := ⟨_, rfl⟩
        generalize hq2 : v2.alloc (.cells #[.int .i64 0] 3) = v3 at *
        have hT3 : Below u.heap.size u v3 := hT2.trans (hbv2.mono hT2.size)
        obtain ⟨ab, eab⟩ := exab
        rw [eab] at HNab hnab ⊢
        clear hbv2 hq2
        rw [eab] at hdabmb
        rw [eab] at hdabbb
        refine wpAnyH_ready (rs := [8]) (by kernel_rfl) (by simp) ?_
        refine AllReadyH.cons rfl (fun K hK => ?_) (AllReadyH.nil)
        have HBs : Hid (BlkF (v3.setCell ⟨ab, 0, none⟩ (.int .i64 t)) u.heap.size ab [.int .i64 t]) := Lib.hid (BlkF.st (vs' := [.int .i64 t]) HNab.out rfl)
        have hTs : Below u.heap.size u (v3.setCell ⟨ab, 0, none⟩ (.int .i64 t)) := stW_below HNab.out.ge [.int .i64 t] v3 0 hT3
        have u_0 := b1 HNab.out
        have u_f := HNab.out.fz
        go_simp
        go_wp2_with fail
        refine hK.out _ _ (HS.out _ hTs) (fun hHeld => ?_)
        clear hK K
        try simp only [Act.put, sA, sB, sC]
        clear u_f u_0
        have H2HNmb : Hid (BlkF (v3.setCell ⟨ab, 0, none⟩ (.int .i64 t)) u.heap.size mb _) := Lib.hid (HNmb.out.other (c := ab) (i := 0) (l := [.int .i64 t]) (by have := HNmb.out.lt; omega))
        have H2HNbb : Hid (BlkF (v3.setCell ⟨ab, 0, none⟩ (.int .i64 t)) u.heap.size bb _) := Lib.hid (HNbb.out.other (c := ab) (i := 0) (l := [.int .i64 t]) (by have := HNbb.out.lt; omega))
        clear HNab
        generalize hs3 : (v3.setCell ⟨ab, 0, none⟩ (.int .i64 t)) = v4 at *
        clear hs3
        have hT4 := hTs
        clear hTs
        have HNab := HBs
        clear HBs
        replace HNmb := H2HNmb
        replace HNbb := H2HNbb
        refine wpAnyH_ready (rs := [9]) (by kernel_rfl) (by simp) ?_
        refine AllReadyH.cons rfl (fun K hK => ?_) (AllReadyH.nil)
        have HBs : Hid (BlkF (v4.setCell ⟨bb, 0, none⟩ (.slice (some ⟨mb, 0, none⟩) gn gn)) u.heap.size bb [.slice (some ⟨mb, 0, none⟩) gn gn]) := Lib.hid (BlkF.st (vs' := [.slice (some ⟨mb, 0, none⟩) gn gn]) HNbb.out rfl)
        have hTs : Below u.heap.size u (v4.setCell ⟨bb, 0, none⟩ (.slice (some ⟨mb, 0, none⟩) gn gn)) := stW_below HNbb.out.ge [.slice (some ⟨mb, 0, none⟩) gn gn] v4 0 hT4
        have u_0 := b1 HNbb.out
        have u_f := HNbb.out.fz
        go_simp
        go_wp2_with fail
        refine hK.out _ _ (HS.out _ hTs) (fun hHeld => ?_)
        clear hK K
        try simp only [Act.put, sA, sB, sC]
        clear u_f u_0
        have H2HNmb : Hid (BlkF (v4.setCell ⟨bb, 0, none⟩ (.slice (some ⟨mb, 0, none⟩) gn gn)) u.heap.size mb _) := Lib.hid (HNmb.out.other (c := bb) (i := 0) (l := [.slice (some ⟨mb, 0, none⟩) gn gn]) (by have := HNmb.out.lt; omega))
        have H2HNab : Hid (BlkF (v4.setCell ⟨bb, 0, none⟩ (.slice (some ⟨mb, 0, none⟩) gn gn)) u.heap.size ab _) := Lib.hid (HNab.out.other (c := bb) (i := 0) (l := [.slice (some ⟨mb, 0, none⟩) gn gn]) (by have := HNab.out.lt; omega))
        clear HNbb
        generalize hs4 : (v4.setCell ⟨bb, 0, none⟩ (.slice (some ⟨mb, 0, none⟩) gn gn)) = v5 at *
        clear hs4
        have hT5 := hTs
        clear hTs
        have HNbb := HBs
        clear HBs
        replace HNmb := H2HNmb
        replace HNab := H2HNab
        refine wpAnyH_done (by kernel_rfl) ?_ _
        clear HS hHeld
        have ge1 := HNab.out.ge
        have ge2 := HNbb.out.ge
        have ge3 := HNmb.out.ge
        go_wp2_with fail
        gi_meet
        exact ⟨ab, bb, mb, rfl, rfl, by omega, by omega, by omega, by omega, by omega, by omega, by rw [← hz]; exact HNab.out, by rw [← hz]; exact HNbb.out, by rw [← hz]; exact HNmb.out, by rw [← hz, HU.out]; exact hT5⟩
    · skip
      go_simp
      go_wp2_with fail
      refine hK.out _ _ (HS.out _ (hT0.alloc hT0.size _)) (fun hHeld => ?_)
      clear hK K
      try simp only [Act.put, sA, sB, sC]
      have HNab := Lib.hid (BlkF.made (B := u.heap.size) v0 [.int .i64 0] 3 hT0.size)
      have hbv0 : Below v0.heap.size v0 (v0.alloc (.cells #[.int .i64 0] 3)) := (Below.refl _ _).alloc (Nat.le_refl _) _
      have hnab : u.heap.size ≤ v0.heap.size := hT0.size
      have exab : ∃ x, v0.heap.size = x := ⟨_, rfl⟩
      generalize hq0 : v0.alloc (.cells #[.int .i64 0] 3) = v1 at *
      have hT1 : Below u.heap.size u v1 := hT0.trans (hbv0.mono hT0.size)
      obtain ⟨ab, eab⟩ := exab
      rw [eab] at HNab hnab ⊢
      clear hbv0 hq0
      refine wpAnyH_ready (rs := [5, 7]) (by kernel_rfl) (by simp) ?_
      refine AllReadyH.cons rfl (fun K hK => ?_) (AllReadyH.cons rfl (fun K hK => ?_) (AllReadyH.nil))
      · skip
        have hmk := fun (w : World) => mkIn8 g1 g8 w
        go_simp
        go_wp2_with fail
        refine hK.out _ _ (HS.out _ (hT1.alloc hT1.size _)) (fun hHeld => ?_)
        clear hK K
        try simp only [Act.put, sA, sB, sC]
        clear hmk
        have HNmb := Lib.hid (BlkF.made (B := u.heap.size) v1 (List.replicate gn (.int .i64 0)) 3 hT1.size)
        have hbv1 : Below v1.heap.size v1 (v1.alloc (.cells (Array.replicate gn (.int .i64 0)) 3)) := (Below.refl _ _).alloc (Nat.le_refl _) _
        have hdmbab : ab < v1.heap.size := HNab.out.lt
        replace HNab := Lib.hid (HNab.out.below hbv1)
        have hnmb : u.heap.size ≤ v1.heap.size := hT1.size
        have exmb : ∃ x, v1.heap.size = x := ⟨_, rfl⟩
        replace HNmb : Hid (BlkF (v1.alloc (.cells (Array.replicate gn (.int .i64 0)) 3)) u.heap.size v1.heap.size (List.replicate gn (.int .i64 0))) := HNmb
        generalize hq1 : v1.alloc (.cells (Array.replicate gn (.int .i64 0)) 3) = v2 at *
        have hT2 : Below u.heap.size u v2 := hT1.trans (hbv1.mono hT1.size)
        obtain ⟨mb, emb⟩ := exmb
        rw [emb] at HNmb hnmb ⊢
        clear hbv1 hq1
        rw [emb] at hdmbab
        refine wpAnyH_ready (rs := [7]) (by kernel_rfl) (by simp) ?_
        refine AllReadyH.cons rfl (fun K hK => ?_) (AllReadyH.nil)
        go_simp
        go_wp2_with fail
        refine hK.out _ _ (HS.out _ (hT2.alloc hT2.size _)) (fun hHeld => ?_)
        clear hK K
        try simp only [Act.put, sA, sB, sC]
        have HNbb := Lib.hid (BlkF.made (B := u.heap.size) v2 [.slice none 0 0] 42 hT2.size)
        have hbv2 : Below v2.heap.size v2 (v2.alloc (.cells #[.slice none 0 0] 42)) := (Below.refl _ _).alloc (Nat.le_refl _) _
        have hdbbab : ab < v2.heap.size := HNab.out.lt
        have hdbbmb : mb < v2.heap.size := HNmb.out.lt
        replace HNab := Lib.hid (HNab.out.below hbv2)
        replace HNmb := Lib.hid (HNmb.out.below hbv2)
        have hnbb : u.heap.size ≤ v2.heap.size := hT2.size
        have exbb : ∃ x, v2.heap.size = x := ⟨_, rfl⟩
        generalize hq2 : v2.alloc (.cells #[.slice none 0 0] 42) = v3 at *
        have hT3 : Below u.heap.size u v3 := hT2.trans (hbv2.mono hT2.size)
        obtain ⟨bb, ebb⟩ := exbb
        rw [ebb] at HNbb hnbb ⊢
        clear hbv2 hq2
        rw [ebb] at hdbbab
        rw [ebb] at hdbbmb
        refine wpAnyH_ready (rs := [8]) (by kernel_rfl) (by simp) ?_
        refine AllReadyH.cons rfl (fun K hK => ?_) (AllReadyH.nil)
        have HBs : Hid (BlkF (v3.setCell ⟨ab, 0, none⟩ (.int .i64 t)) u.heap.size ab [.int .i64 t]) := Lib.hid (BlkF.st (vs' := [.int .i64 t]) HNab.out rfl)
        have hTs : Below u.heap.size u (v3.setCell ⟨ab, 0, none⟩ (.int .i64 t)) := stW_below HNab.out.ge [.int .i64 t] v3 0 hT3
        have u_0 := b1 HNab.out
        have u_f := HNab.out.fz
        go_simp
        go_wp2_with fail
        refine hK.out _ _ (HS.out _ hTs) (fun hHeld => ?_)
        clear hK K
        try simp only [Act.put, sA, sB, sC]
        clear u_f u_0
        have H2HNmb : Hid (BlkF (v3.setCell ⟨ab, 0, none⟩ (.int .i64 t)) u.heap.size mb _) := Lib.hid (HNmb.out.other (c := ab) (i := 0) (l := [.int .i64 t]) (by have := HNmb.out.lt; omega))
        have H2HNbb : Hid (BlkF (v3.setCell ⟨ab, 0, none⟩ (.int .i64 t)) u.heap.size bb _) := Lib.hid (HNbb.out.other (c := ab) (i := 0) (l := [.int .i64 t]) (by have := HNbb.out.lt; omega))
        clear HNab
        generalize hs3 : (v3.setCell ⟨ab, 0, none⟩ (.int .i64 t)) = v4 at *
        clear hs3
        have hT4 := hTs
        clear hTs
        have HNab := HBs
        clear HBs
        replace HNmb := H2HNmb
        replace HNbb := H2HNbb
        refine wpAnyH_ready (rs := [9]) (by kernel_rfl) (by simp) ?_
        refine AllReadyH.cons rfl (fun K hK => ?_) (AllReadyH.nil)
        have HBs : Hid (BlkF (v4.setCell ⟨bb, 0, none⟩ (.slice (some ⟨mb, 0, none⟩) gn gn)) u.heap.size bb [.slice (some ⟨mb, 0, none⟩) gn gn]) := Lib.hid (BlkF.st (vs' := [.slice (some ⟨mb, 0, none⟩) gn gn]) HNbb.out rfl)
        have hTs : Below u.heap.size u (v4.setCell ⟨bb, 0, none⟩ (.slice (some ⟨mb, 0, none⟩) gn gn)) := stW_below HNbb.out.ge [.slice (some ⟨mb, 0, none⟩) gn gn] v4 0 hT4
        have u_0 := b1 HNbb.out
        have u_f := HNbb.out.fz
        go_simp
        go_wp2_with fail
        refine hK.out _ _ (HS.out _ hTs) (fun hHeld => ?_)
        clear hK K
        try simp only [Act.put, sA, sB, sC]
        clear u_f u_0
        have H2HNab : Hid (BlkF (v4.setCell ⟨bb, 0, none⟩ (.slice (some ⟨mb, 0, none⟩) gn gn)) u.heap.size ab _) := Lib.hid (HNab.out.other (c := bb) (i := 0) (l := [.slice (some ⟨mb, 0, none⟩) gn gn]) (by have := HNab.out.lt; omega))
        have H2HNmb : Hid (BlkF (v4.setCell ⟨bb, 0, none⟩ (.slice (some ⟨mb, 0, none⟩) gn gn)) u.heap.size mb _) := Lib.hid (HNmb.out.other (c := bb) (i := 0) (l := [.slice (some ⟨mb, 0, none⟩) gn gn]) (by have := HNmb.out.lt; omega))
        clear HNbb
        generalize hs4 : (v4.setCell ⟨bb, 0, none⟩ (.slice (some ⟨mb, 0, none⟩) gn gn)) = v5 at *
        clear hs4
        have hT5 := hTs
        clear hTs
        have HNbb := HBs
        clear HBs
        replace HNab := H2HNab
        replace HNmb := H2HNmb
        refine wpAnyH_done (by kernel_rfl) ?_ _
        clear HS hHeld
        have ge1 := HNab.out.ge
        have ge2 := HNbb.out.ge
        have ge3 := HNmb.out.ge
        go_wp2_with fail
        gi_meet
        exact ⟨ab, bb, mb, rfl, rfl, by omega, by omega, by omega, by omega, by omega, by omega, by rw [← hz]; exact HNab.out, by rw [← hz]; exact HNbb.out, by rw [← hz]; exact HNmb.out, by rw [← hz, HU.out]; exact hT5⟩
      · skip
        go_simp
        go_wp2_with fail
        refine hK.out _ _ (HS.out _ (hT1.alloc hT1.size _)) (fun hHeld => ?_)
        clear hK K
        try simp only [Act.put, sA, sB, sC]
        have HNbb := Lib.hid (BlkF.made (B := u.heap.size) v1 [.slice none 0 0] 42 hT1.size)
        have hbv1 : Below v1.heap.size v1 (v1.alloc (.cells #[.slice none 0 0] 42)) := (Below.refl _ _).alloc (Nat.le_refl _) _
        have hdbbab : ab < v1.heap.size := HNab.out.lt
        replace HNab := Lib.hid (HNab.out.below hbv1)
        have hnbb : u.heap.size ≤ v1.heap.size := hT1.size
        have exbb : ∃ x, v1.heap.size = x := ⟨_, rfl⟩
        generalize hq1 : v1.alloc (.cells #[.slice none 0 0] 42) = v2 at *
        have hT2 : Below u.heap.size u v2 := hT1.trans (hbv1.mono hT1.size)
        obtain ⟨bb, ebb⟩ := exbb
        rw [ebb] at HNbb hnbb ⊢
        clear hbv1 hq1
        rw [ebb] at hdbbab
        refine wpAnyH_ready (rs := [5, 8]) (by kernel_rfl) (by simp) ?_
        refine AllReadyH.cons rfl (fun K hK => ?_) (AllReadyH.cons rfl (fun K hK => ?_) (AllReadyH.nil))
        · skip
          have hmk := fun (w : World) => mkIn8 g1 g8 w
          go_simp
          go_wp2_with fail
          refine hK.out _ _ (HS.out _ (hT2.alloc hT2.size _)) (fun hHeld => ?_)
          clear hK K
          try simp only [Act.put, sA, sB, sC]
          clear hmk
          have HNmb := Lib.hid (BlkF.made (B := u.heap.size) v2 (List.replicate gn (.int .i64 0)) 3 hT2.size)
          have hbv2 : Below v2.heap.size v2 (v2.alloc (.cells (Array.replicate gn (.int .i64 0)) 3)) := (Below.refl _ _).alloc (Nat.le_refl _) _
          have hdmbab : ab < v2.heap.size := HNab.out.lt
          have hdmbbb : bb < v2.heap.size := HNbb.out.lt
          replace HNab := Lib.hid (HNab.out.below hbv2)
          replace HNbb := Lib.hid (HNbb.out.below hbv2)
          have hnmb : u.heap.size ≤ v2.heap.size := hT2.size
          have exmb : ∃ x, v2.heap.size = x := ⟨_, rfl⟩
          replace HNmb : Hid (BlkF (v2.alloc (.cells (Array.replicate gn (.int .i64 0)) 3)) u.heap.size v2.heap.size (List.replicate gn (.int .i64 0))) := HNmb
          generalize hq2 : v2.alloc (.cells (Array.replicate gn (.int .i64 0)) 3) = v3 at *
          have hT3 : Below u.heap.size u v3 := hT2.trans (hbv2.mono hT2.size)
          obtain ⟨mb, emb⟩ := exmb
          rw [emb] at HNmb hnmb ⊢
          clear hbv2 hq2
          rw [emb] at hdmbab
          rw [emb] at hdmbbb
          refine wpAnyH_ready (rs := [8]) (by kernel_rfl) (by simp) ?_
          refine AllReadyH.cons rfl (fun K hK => ?_) (AllReadyH.nil)
          have HBs : Hid (BlkF (v3.setCell ⟨ab, 0, none⟩ (.int .i64 t)) u.heap.size ab [.int .i64 t]) := Lib.hid (BlkF.st (vs' := [.int .i64 t]) HNab.out rfl)
          have hTs : Below u.heap.size u (v3.setCell ⟨ab, 0, none⟩ (.int .i64 t)) := stW_below HNab.out.ge [.int .i64 t] v3 0 hT3
          have u_0 := b1 HNab.out
          have u_f := HNab.out.fz
          go_simp
          go_wp2_with fail
          refine hK.out _ _ (HS.out _ hTs) (fun hHeld => ?_)
          clear hK K
          try simp only [Act.put, sA, sB, sC]
          clear u_f u_0
          have H2HNbb : Hid (BlkF (v3.setCell ⟨ab, 0, none⟩ (.int .i64 t)) u.heap.size bb _) := Lib.hid (HNbb.out.other (c := ab) (i := 0) (l := [.int .i64 t]) (by have := HNbb.out.lt; omega))
          have H2HNmb : Hid (BlkF (v3.setCell ⟨ab, 0, none⟩ (.int .i64 t)) u.heap.size mb _) := Lib.hid (HNmb.out.other (c := ab) (i := 0) (l := [.int .i64 t]) (by have := HNmb.out.lt; omega))
          clear HNab
          generalize hs3 : (v3.setCell ⟨ab, 0, none⟩ (.int .i64 t)) = v4 at *
          clear hs3
          have hT4 := hTs
          clear hTs
          have HNab := HBs
          clear HBs
          replace HNbb := H2HNbb
          replace HNmb := H2HNmb
          refine wpAnyH_ready (rs := [9]) (by kernel_rfl) (by simp) ?_
          refine AllReadyH.cons rfl (fun K hK => ?_) (AllReadyH.nil)
          have HBs : Hid (BlkF (v4.setCell ⟨bb, 0, none⟩ (.slice (some ⟨mb, 0, none⟩) gn gn)) u.heap.size bb [.slice (some ⟨mb, 0, none⟩) gn gn]) := Lib.hid (BlkF.st (vs' := [.slice (some ⟨mb, 0, none⟩) gn gn]) HNbb.out rfl)
          have hTs : Below u.heap.size u (v4.setCell ⟨bb, 0, none⟩ (.slice (some ⟨mb, 0, none⟩) gn gn)) := stW_below HNbb.out.ge [.slice (some ⟨mb, 0, none⟩) gn gn] v4 0 hT4
          have u_0 := b1 HNbb.out
          have u_f := HNbb.out.fz
          go_simp
          go_wp2_with fail
          refine hK.out _ _ (HS.out _ hTs) (fun hHeld => ?_)
          clear hK K
          try simp only [Act.put, sA, sB, sC]
          clear u_f u_0
          have H2HNab : Hid (BlkF (v4.setCell ⟨bb, 0, none⟩ (.slice (some ⟨mb, 0, none⟩) gn gn)) u.heap.size ab _) := Lib.hid (HNab.out.other (c := bb) (i := 0) (l := [.slice (some ⟨mb, 0, none⟩) gn gn]) (by have := HNab.out.lt; omega))
          have H2HNmb : Hid (BlkF (v4.setCell ⟨bb, 0, none⟩ (.slice (some ⟨mb, 0, none⟩) gn gn)) u.heap.size mb _) := Lib.hid (HNmb.out.other (c := bb) (i := 0) (l := [.slice (some ⟨mb, 0, none⟩) gn gn]) (by have := HNmb.out.lt; omega))
          clear HNbb
          generalize hs4 : (v4.setCell ⟨bb, 0, none⟩ (.slice (some ⟨mb, 0, none⟩) gn gn)) = v5 at *
          clear hs4
          have hT5 := hTs
          clear hTs
          have HNbb := HBs
          clear HBs
          replace HNab := H2HNab
          replace HNmb := H2HNmb
          refine wpAnyH_done (by kernel_rfl) ?_ _
          clear HS hHeld
          have ge1 := HNab.out.ge
          have ge2 := HNbb.out.ge
          have ge3 := HNmb.out.ge
          go_wp2_with fail
          gi_meet
          exact ⟨ab, bb, mb, rfl, rfl, by omega, by omega, by omega, by omega, by omega, by omega, by rw [← hz]; exact HNab.out, by rw [← hz]; exact HNbb.out, by rw [← hz]; exact HNmb.out, by rw [← hz, HU.out]; exact hT5⟩
        · skip
          have HBs : Hid (BlkF (v2.setCell ⟨ab, 0, none⟩ (.int .i64 t)) u.heap.size ab [.int .i64 t]) := Lib.hid (BlkF.st (vs' := [.int .i64 t]) HNab.out rfl)
          have hTs : Below u.heap.size u (v2.setCell ⟨ab, 0, none⟩ (.int .i64 t)) := stW_below HNab.out.ge [.int .i64 t] v2 0 hT2
          have u_0 := b1 HNab.out
          have u_f := HNab.out.fz
          go_simp
          go_wp2_with fail
          refine hK.out _ _ (HS.out _ hTs) (fun hHeld => ?_)
          clear hK K
          try simp only [Act.put, sA, sB, sC]
          clear u_f u_0
          have H2HNbb : Hid (BlkF (v2.setCell ⟨ab, 0, none⟩ (.int .i64 t)) u.heap.size bb _) := Lib.hid (HNbb.out.other (c := ab) (i := 0) (l := [.int .i64 t]) (by have := HNbb.out.lt; omega))
          clear HNab
          generalize hs2 : (v2.setCell ⟨ab, 0, none⟩ (.int .i64 t)) = v3 at *
          clear hs2
          have hT3 := hTs
          clear hTs
          have HNab := HBs
          clear HBs
          replace HNbb := H2HNbb
          refine wpAnyH_ready (rs := [5]) (by kernel_rfl) (by simp) ?_
          refine AllReadyH.cons rfl (fun K hK => ?_) (AllReadyH.nil)
          have hmk := fun (w : World) => mkIn8 g1 g8 w
          go_simp
          go_wp2_with fail
          refine hK.out _ _ (HS.out _ (hT3.alloc hT3.size _)) (fun hHeld => ?_)
          clear hK K
          try simp only [Act.put, sA, sB, sC]
          clear hmk
          have HNmb := Lib.hid (BlkF.made (B := u.heap.size) v3 (List.replicate gn (.int .i64 0)) 3 hT3.size)
          have hbv3 : Below v3.heap.size v3 (v3.alloc (.cells (Array.replicate gn (.int .i64 0)) 3)) := (Below.refl _ _).alloc (Nat.le_refl _) _
          have hdmbab : ab < v3.heap.size := HNab.out.lt
          have hdmbbb : bb < v3.heap.size := HNbb.out.lt
          replace HNab := Lib.hid (HNab.out.below hbv3)
          replace HNbb := Lib.hid (HNbb.out.below hbv3)
          have hnmb : u.heap.size ≤ v3.heap.size := hT3.size
          have exmb : ∃ x, v3.heap.size = x := ⟨_, rfl⟩
          replace HNmb : Hid (BlkF (v3.alloc (.cells (Array.replicate gn (.int .i64 0)) 3)) u.heap.size v3.heap.size (List.replicate gn (.int .i64 0))) := HNmb
          generalize hq3 : v3.alloc (.cells (Array.replicate gn (.int .i64 0)) 3) = v4 at *
          have hT4 : Below u.heap.size u v4 := hT3.trans (hbv3.mono hT3.size)
          obtain ⟨mb, emb⟩ := exmb
          rw [emb] at HNmb hnmb ⊢
          clear hbv3 hq3
          rw [emb] at hdmbab
          rw [emb] at hdmbbb
          refine wpAnyH_ready (rs := [9]) (by kernel_rfl) (by simp) ?_
          refine AllReadyH.cons rfl (fun K hK => ?_) (AllReadyH.nil)
          have HBs : Hid (BlkF (v4.setCell ⟨bb, 0, none⟩ (.slice (some ⟨mb, 0, none⟩) gn gn)) u.heap.size bb [.slice (some ⟨mb, 0, none⟩) gn gn]) := Lib.hid (BlkF.st (vs' := [.slice (some ⟨mb, 0, none⟩) gn gn]) HNbb.out rfl)
          have hTs : Below u.heap.size u (v4.setCell ⟨bb, 0, none⟩ (.slice (some ⟨mb, 0, none⟩) gn gn)) := stW_below HNbb.out.ge [.slice (some ⟨mb, 0, none⟩) gn gn] v4 0 hT4
          have u_0 := b1 HNbb.out
          have u_f := HNbb.out.fz
          go_simp
          go_wp2_with fail
          refine hK.out _ _ (HS.out _ hTs) (fun hHeld => ?_)
          clear hK K
          try simp only [Act.put, sA, sB, sC]
          clear u_f u_0
          have H2HNab : Hid (BlkF (v4.setCell ⟨bb, 0, none⟩ (.slice (some ⟨mb, 0, none⟩) gn gn)) u.heap.size ab _) := Lib.hid (HNab.out.other (c := bb) (i := 0) (l := [.slice (some ⟨mb, 0, none⟩) gn gn]) (by have := HNab.out.lt; omega))
          have H2HNmb : Hid (BlkF (v4.setCell ⟨bb, 0, none⟩ (.slice (some ⟨mb, 0, none⟩) gn gn)) u.heap.size mb _) := Lib.hid (HNmb.out.other (c := bb) (i := 0) (l := [.slice (some ⟨mb, 0, none⟩) gn gn]) (by have := HNmb.out.lt; omega))
          clear HNbb
          generalize hs4 : (v4.setCell ⟨bb, 0, none⟩ (.slice (some ⟨mb, 0, none⟩) gn gn)) = v5 at *
          clear hs4
          have hT5 := hTs
          clear hTs
          have HNbb := HBs
          clear HBs
          replace HNab := H2HNab
          replace HNmb := H2HNmb
          refine wpAnyH_done (by kernel_rfl) ?_ _
          clear HS hHeld
          have ge1 := HNab.out.ge
          have ge2 := HNbb.out.ge
          have ge3 := HNmb.out.ge
          go_wp2_with fail
          gi_meet
          exact ⟨ab, bb, mb, rfl, rfl, by omega, by omega, by omega, by omega, by omega, by omega, by rw [← hz]; exact HNab.out, by rw [← hz]; exact HNbb.out, by rw [← hz]; exact HNmb.out, by rw [← hz, HU.out]; exact hT5⟩
    · skip
      go_simp
      go_wp2_with fail
      refine hK.out _ _ (HS.out _ (hT0.alloc hT0.size _)) (fun hHeld => ?_)
      clear hK K
      try simp only [Act.put, sA, sB, sC]
      have HNbb := Lib.hid (BlkF.made (B := u.heap.size) v0 [.slice none 0 0] 42 hT0.size)
      have hbv0 : Below v0.heap.size v0 (v0.alloc (.cells #[.slice none 0 0] 42)) := (Below.refl _ _).alloc (Nat.le_refl _) _
      have hnbb : u.heap.size ≤ v0.heap.size := hT0.size
      have exbb : ∃ x, v0.heap.size = x := ⟨_, rfl⟩
      generalize hq0 : v0.alloc (.cells #[.slice none 0 0] 42) = v1 at *
      have hT1 : Below u.heap.size u v1 := hT0.trans (hbv0.mono hT0.size)
      obtain ⟨bb, ebb⟩ := exbb
      rw [ebb] at HNbb hnbb ⊢
      clear hbv0 hq0
      refine wpAnyH_ready (rs := [5, 6]) (by kernel_rfl) (by simp) ?_
      refine AllReadyH.cons rfl (fun K hK => ?_) (AllReadyH.cons rfl (fun K hK => ?_) (AllReadyH.nil))
      · skip
        have hmk := fun (w : World) => mkIn8 g1 g8 w
        go_simp
        go_wp2_with fail
        refine hK.out _ _ (HS.out _ (hT1.alloc hT1.size _)) (fun hHeld => ?_)
        clear hK K
        try simp only [Act.put, sA, sB, sC]
        clear hmk
        have HNmb := Lib.hid (BlkF.made (B := u.heap.size) v1 (List.replicate gn (.int .i64 0)) 3 hT1.size)
        have hbv1 : Below v1.heap.size v1 (v1.alloc (.cells (Array.replicate gn (.int .i64 0)) 3)) := (Below.refl _ _).alloc (Nat.le_refl _) _
        have hdmbbb : bb < v1.heap.size := HNbb.out.lt
        replace HNbb := Lib.hid (HNbb.out.below hbv1)
        have hnmb : u.heap.size ≤ v1.heap.size := hT1.size
        have exmb : ∃ x, v1.heap.size = x := ⟨_, rfl⟩
        replace HNmb : Hid (BlkF (v1.alloc (.cells (Array.replicate gn (.int .i64 0)) 3)) u.heap.size v1.heap.size (List.replicate gn (.int .i64 0))) := HNmb
        generalize hq1 : v1.alloc (.cells (Array.replicate gn (.int .i64 0)) 3) = v2 at *
        have hT2 : Below u.heap.size u v2 := hT1.trans (hbv1.mono hT1.size)
        obtain ⟨mb, emb⟩ := exmb
        rw [emb] at HNmb hnmb ⊢
        clear hbv1 hq1
        rw [emb] at hdmbbb
        refine wpAnyH_ready (rs := [6]) (by kernel_rfl) (by simp) ?_
        refine AllReadyH.cons rfl (fun K hK => ?_) (AllReadyH.nil)
        go_simp
        go_wp2_with fail
        refine hK.out _ _ (HS.out _ (hT2.alloc hT2.size _)) (fun hHeld => ?_)
        clear hK K
        try simp only [Act.put, sA, sB, sC]
        have HNab := Lib.hid (BlkF.made (B := u.heap.size) v2 [.int .i64 0] 3 hT2.size)
        have hbv2 : Below v2.heap.size v2 (v2.alloc (.cells #[.int .i64 0] 3)) := (Below.refl _ _).alloc (Nat.le_refl _) _
        have hdabbb : bb < v2.heap.size := HNbb.out.lt
        have hdabmb : mb < v2.heap.size := HNmb.out.lt
        replace HNbb := Lib.hid (HNbb.out.below hbv2)
        replace HNmb := Lib.hid (HNmb.out.below hbv2)
        have hnab : u.heap.size ≤ v2.heap.size := hT2.size
        have exab : ∃ x, v2.heap.size = x := ⟨_, rfl⟩
        generalize hq2 : v2.alloc (.cells #[.int .i64 0] 3) = v3 at *
        have hT3 : Below u.heap.size u v3 := hT2.trans (hbv2.mono hT2.size)
        obtain ⟨ab, eab⟩ := exab
        rw [eab] at HNab hnab ⊢
        clear hbv2 hq2
        rw [eab] at hdabbb
        rw [eab] at hdabmb
        refine wpAnyH_ready (rs := [8]) (by kernel_rfl) (by simp) ?_
        refine AllReadyH.cons rfl (fun K hK => ?_) (AllReadyH.nil)
        have HBs : Hid (BlkF (v3.setCell ⟨ab, 0, none⟩ (.int .i64 t)) u.heap.size ab [.int .i64 t]) := Lib.hid (BlkF.st (vs' := [.int .i64 t]) HNab.out rfl)
        have hTs : Below u.heap.size u (v3.setCell ⟨ab, 0, none⟩ (.int .i64 t)) := stW_below HNab.out.ge [.int .i64 t] v3 0 hT3
        have u_0 := b1 HNab.out
        have u_f := HNab.out.fz
        go_simp
        go_wp2_with fail
        refine hK.out _ _ (HS.out _ hTs) (fun hHeld => ?_)
        clear hK K
        try simp only [Act.put, sA, sB, sC]
        clear u_f u_0
        have H2HNbb : Hid (BlkF (v3.setCell ⟨ab, 0, none⟩ (.int .i64 t)) u.heap.size bb _) := Lib.hid (HNbb.out.other (c := ab) (i := 0) (l := [.int .i64 t]) (by have := HNbb.out.lt; omega))
        have H2HNmb : Hid (BlkF (v3.setCell ⟨ab, 0, none⟩ (.int .i64 t)) u.heap.size mb _) := Lib.hid (HNmb.out.other (c := ab) (i := 0) (l := [.int .i64 t]) (by have := HNmb.out.lt; omega))
        clear HNab
        generalize hs3 : (v3.setCell ⟨ab, 0, none⟩ (.int .i64 t)) = v4 at *
        clear hs3
        have hT4 := hTs
        clear hTs
        have HNab := HBs
        clear HBs
        replace HNbb := H2HNbb
        replace HNmb := H2HNmb
        refine wpAnyH_ready (rs := [9]) (by kernel_rfl) (by simp) ?_
        refine AllReadyH.cons rfl (fun K hK => ?_) (AllReadyH.nil)
        have HBs : Hid (BlkF (v4.setCell ⟨bb, 0, none⟩ (.slice (some ⟨mb, 0, none⟩) gn gn)) u.heap.size bb [.slice (some ⟨mb, 0, none⟩) gn gn]) := Lib.hid (BlkF.st (vs' := [.slice (some ⟨mb, 0, none⟩) gn gn]) HNbb.out rfl)
        have hTs : Below u.heap.size u (v4.setCell ⟨bb, 0, none⟩ (.slice (some ⟨mb, 0, none⟩) gn gn)) := stW_below HNbb.out.ge [.slice (some ⟨mb, 0, none⟩) gn gn] v4 0 hT4
        have u_0 := b1 HNbb.out
        have u_f := HNbb.out.fz
        go_simp
        go_wp2_with fail
        refine hK.out _ _ (HS.out _ hTs) (fun hHeld => ?_)
        clear hK K
        try simp only [Act.put, sA, sB, sC]
        clear u_f u_0
        have H2HNmb : Hid (BlkF (v4.setCell ⟨bb, 0, none⟩ (.slice (some ⟨mb, 0, none⟩) gn gn)) u.heap.size mb _) := Lib.hid (HNmb.out.other (c := bb) (i := 0) (l := [.slice (some ⟨mb, 0, none⟩) gn gn]) (by have := HNmb.out.lt; omega))
        have H2HNab : Hid (BlkF (v4.setCell ⟨bb, 0, none⟩ (.slice (some ⟨mb, 0, none⟩) gn gn)) u.heap.size ab _) := Lib.hid (HNab.out.other (c := bb) (i := 0) (l := [.slice (some ⟨mb, 0, none⟩) gn gn]) (by have := HNab.out.lt; omega))
        clear HNbb
        generalize hs4 : (v4.setCell ⟨bb, 0, none⟩ (.slice (some ⟨mb, 0, none⟩) gn gn)) = v5 at *
        clear hs4
        have hT5 := hTs
        clear hTs
        have HNbb := HBs
        clear HBs
        replace HNmb := H2HNmb
        replace HNab := H2HNab
        refine wpAnyH_done (by kernel_rfl) ?_ _
        clear HS hHeld
        have ge1 := HNab.out.ge
        have ge2 := HNbb.out.ge
        have ge3 := HNmb.out.ge
        go_wp2_with fail
        gi_meet
        exact ⟨ab, bb, mb, rfl, rfl, by omega, by omega, by omega, by omega, by omega, by omega, by rw [← hz]; exact HNab.out, by rw [← hz]; exact HNbb.out, by rw [← hz]; exact HNmb.out, by rw [← hz, HU.out]; exact hT5⟩
      · skip
        go_simp
        go_wp2_with fail
        refine hK.out _ _ (HS.out _ (hT1.alloc hT1.size _)) (fun hHeld => ?_)
        clear hK K
        try simp only [Act.put, sA, sB, sC]
        have HNab := Lib.hid (BlkF.made (B := u.heap.size) v1 [.int .i64 0] 3 hT1.size)
        have hbv1 : Below v1.heap.size v1 (v1.alloc (.cells #[.int .i64 0] 3)) := (Below.refl _ _).alloc (Nat.le_refl _) _
        have hdabbb : bb < v1.heap.size := HNbb.out.lt
        replace HNbb := Lib.hid (HNbb.out.below hbv1)
        have hnab : u.heap.size ≤ v1.heap.size := hT1.size
        have exab : ∃ x, v1.heap.size = x := ⟨_, rfl⟩
        generalize hq1 : v1.alloc (.cells #[.int .i64 0] 3) = v2 at *
        have hT2 : Below u.heap.size u v2 := hT1.trans (hbv1.mono hT1.size)
        obtain ⟨ab, eab⟩ := exab
        rw [eab] at HNab hnab ⊢
        clear hbv1 hq1
        rw [eab] at hdabbb
        refine wpAnyH_ready (rs := [5, 8]) (by kernel_rfl) (by simp) ?_
        refine AllReadyH.cons rfl (fun K hK => ?_) (AllReadyH.cons rfl (fun K hK => ?_) (AllReadyH.nil))
        · skip
          have hmk := fun (w : World) => mkIn8 g1 g8 w
          go_simp
          go_wp2_with fail
          refine hK.out _ _ (HS.out _ (hT2.alloc hT2.size _)) (fun hHeld => ?_)
          clear hK K
          try simp only [Act.put, sA, sB, sC]
          clear hmk
          have HNmb := Lib.hid (BlkF.made (B := u.heap.size) v2 (List.replicate gn (.int .i64 0)) 3 hT2.size)
          have hbv2 : Below v2.heap.size v2 (v2.alloc (.cells (Array.replicate gn (.int .i64 0)) 3)) := (Below.refl _ _).alloc (Nat.le_refl _) _
          have hdmbbb : bb < v2.heap.size := HNbb.out.lt
          have hdmbab : ab < v2.heap.size := HNab.out.lt
          replace HNbb := Lib.hid (HNbb.out.below hbv2)
          replace HNab := Lib.hid (HNab.out.below hbv2)
          have hnmb : u.heap.size ≤ v2.heap.size := hT2.size
          have exmb : ∃ x, v2.heap.size = x := ⟨_, rfl⟩
          replace HNmb : Hid (BlkF (v2.alloc (.cells (Array.replicate gn (.int .i64 0)) 3)) u.heap.size v2.heap.size (List.replicate gn (.int .i64 0))) := HNmb
          generalize hq2 : v2.alloc (.cells (Array.replicate gn (.int .i64 0)) 3) = v3 at *
          have hT3 : Below u.heap.size u v3 := hT2.trans (hbv2.mono hT2.size)
          obtain ⟨mb, emb⟩ := exmb
          rw [emb] at HNmb hnmb ⊢
          clear hbv2 hq2
          rw [emb] at hdmbbb
          rw [emb] at hdmbab
          refine wpAnyH_ready (rs := [8]) (by kernel_rfl) (by simp) ?_
          refine AllReadyH.cons rfl (fun K hK => ?_) (AllReadyH.nil)
          have HBs : Hid (BlkF (v3.setCell ⟨ab, 0, none⟩ (.int .i64 t)) u.heap.size ab [.int .i64 t]) := Lib.hid (BlkF.st (vs' := [.int .i64 t]) HNab.out rfl)
          have hTs : Below u.heap.size u (v3.setCell ⟨ab, 0, none⟩ (.int .i64 t)) := stW_below HNab.out.ge [.int .i64 t] v3 0 hT3
          have u_0 := b1 HNab.out
          have u_f := HNab.out.fz
          go_simp
          go_wp2_with fail
          refine hK.out _ _ (HS.out _ hTs) (fun hHeld => ?_)
          clear hK K
          try simp only [Act.put, sA, sB, sC]
          clear u_f u_0
          have H2HNbb : Hid (BlkF (v3.setCell ⟨ab, 0, none⟩ (.int .i64 t)) u.heap.size bb _) := Lib.hid (HNbb.out.other (c := ab) (i := 0) (l := [.int .i64 t]) (by have := HNbb.out.lt; omega))
          have H2HNmb : Hid (BlkF (v3.setCell ⟨ab, 0, none⟩ (.int .i64 t)) u.heap.size mb _) := Lib.hid (HNmb.out.other (c := ab) (i := 0) (l := [.int .i64 t]) (by have := HNmb.out.lt; omega))
          clear HNab
          generalize hs3 : (v3.setCell ⟨ab, 0, none⟩ (.int .i64 t)) = v4 at *
          clear hs3
          have hT4 := hTs
          clear hTs
          have HNab := HBs
          clear HBs
          replace HNbb := H2HNbb
          replace HNmb := H2HNmb
          refine wpAnyH_ready (rs := [9]) (by kernel_rfl) (by simp) ?_
          refine AllReadyH.cons rfl (fun K hK => ?_) (AllReadyH.nil)
          have HBs : Hid (BlkF (v4.setCell ⟨bb, 0, none⟩ (.slice (some ⟨mb, 0, none⟩) gn gn)) u.heap.size bb [.slice (some ⟨mb, 0, none⟩) gn gn]) := Lib.hid (BlkF.st (vs' := [.slice (some ⟨mb, 0, none⟩) gn gn]) HNbb.out rfl)
          have hTs : Below u.heap.size u (v4.setCell ⟨bb, 0, none⟩ (.slice (some ⟨mb, 0, none⟩) gn gn)) := stW_below HNbb.out.ge [.slice (some ⟨mb, 0, none⟩) gn gn] v4 0 hT4
          have u_0 := b1 HNbb.out
          have u_f := HNbb.out.fz
          go_simp
          go_wp2_with fail
          refine hK.out _ _ (HS.out _ hTs) (fun hHeld => ?_)
          clear hK K
          try simp only [Act.put, sA, sB, sC]
          clear u_f u_0
          have H2HNab : Hid (BlkF (v4.setCell ⟨bb, 0, none⟩ (.slice (some ⟨mb, 0, none⟩) gn gn)) u.heap.size ab _) := Lib.hid (HNab.out.other (c := bb) (i := 0) (l := [.slice (some ⟨mb, 0, none⟩) gn gn]) (by have := HNab.out.lt; omega))
          have H2HNmb : Hid (BlkF (v4.setCell ⟨bb, 0, none⟩ (.slice (some ⟨mb, 0, none⟩) gn gn)) u.heap.size mb _) := Lib.hid (HNmb.out.other (c := bb) (i := 0) (l := [.slice (some ⟨mb, 0, none⟩) gn gn]) (by have := HNmb.out.lt; omega))
          clear HNbb
          generalize hs4 : (v4.setCell ⟨bb, 0, none⟩ (.slice (some ⟨mb, 0, none⟩) gn gn)) = v5 at *
          clear hs4
          have hT5 := hTs
          clear hTs
          have HNbb := HBs
          clear HBs
          replace HNab := H2HNab
          replace HNmb := H2HNmb
          refine wpAnyH_done (by kernel_rfl) ?_ _
          clear HS hHeld
          have ge1 := HNab.out.ge
          have ge2 := HNbb.out.ge
          have ge3 := HNmb.out.ge
          go_wp2_with fail
          gi_meet
          exact ⟨ab, bb, mb, rfl, rfl, by omega, by omega, by omega, by omega, by omega, by omega, by rw [← hz]; exact HNab.out, by rw [← hz]; exact HNbb.out, by rw [← hz]; exact HNmb.out, by rw [← hz, HU.out]; exact hT5⟩
        · skip
          have HBs : Hid (BlkF (v2.setCell ⟨ab, 0, none⟩ (.int .i64 t)) u.heap.size ab [.int .i64 t]) := Lib.hid (BlkF.st (vs' := [.int .i64 t]) HNab.out rfl)
          have hTs : Below u.heap.size u (v2.setCell ⟨ab, 0, none⟩ (.int .i64 t)) := stW_below HNab.out.ge [.int .i64 t] v2 0 hT2
          have u_0 := b1 HNab.out
          have u_f := HNab.out.fz
          go_simp
          go_wp2_with fail
          refine hK.out _ _ (HS.out _ hTs) (fun hHeld => ?_)
          clear hK K
          try simp only [Act.put, sA, sB, sC]
          clear u_f u_0
          have H2HNbb : Hid (BlkF (v2.setCell ⟨ab, 0, none⟩ (.int .i64 t)) u.heap.size bb _) := Lib.hid (HNbb.out.other (c := ab) (i := 0) (l := [.int .i64 t]) (by have := HNbb.out.lt; omega))
          clear HNab
          generalize hs2 : (v2.setCell ⟨ab, 0, none⟩ (.int .i64 t)) = v3 at *
          clear hs2
          have hT3 := hTs
          clear hTs
          have HNab := HBs
          clear HBs
          replace HNbb := H2HNbb
          refine wpAnyH_ready (rs := [5]) (by kernel_rfl) (by simp) ?_
          refine AllReadyH.cons rfl (fun K hK => ?_) (AllReadyH.nil)
          have hmk := fun (w : World) => mkIn8 g1 g8 w
          go_simp
          go_wp2_with fail
          refine hK.out _ _ (HS.out _ (hT3.alloc hT3.size _)) (fun hHeld => ?_)
          clear hK K
          try simp only [Act.put, sA, sB, sC]
          clear hmk
          have HNmb := Lib.hid (BlkF.made (B := u.heap.size) v3 (List.replicate gn (.int .i64 0)) 3 hT3.size)
          have hbv3 : Below v3.heap.size v3 (v3.alloc (.cells (Array.replicate gn (.int .i64 0)) 3)) := (Below.refl _ _).alloc (Nat.le_refl _) _
          have hdmbbb : bb < v3.heap.size := HNbb.out.lt
          have hdmbab : ab < v3.heap.size := HNab.out.lt
          replace HNbb := Lib.hid (HNbb.out.below hbv3)
          replace HNab := Lib.hid (HNab.out.below hbv3)
          have hnmb : u.heap.size ≤ v3.heap.size := hT3.size
          have exmb : ∃ x, v3.heap.size = x := ⟨_, rfl⟩
          replace HNmb : Hid (BlkF (v3.alloc (.cells (Array.replicate gn (.int .i64 0)) 3)) u.heap.size v3.heap.size (List.replicate gn (.int .i64 0))) := HNmb
          generalize hq3 : v3.alloc (.cells (Array.replicate gn (.int .i64 0)) 3) = v4 at *
          have hT4 : Below u.heap.size u v4 := hT3.trans (hbv3.mono hT3.size)
          obtain ⟨mb, emb⟩ := exmb
          rw [emb] at HNmb hnmb ⊢
          clear hbv3 hq3
          rw [emb] at hdmbbb
          rw [emb] at hdmbab
          refine wpAnyH_ready (rs := [9]) (by kernel_rfl) (by simp) ?_
          refine AllReadyH.cons rfl (fun K hK => ?_) (AllReadyH.nil)
          have HBs : Hid (BlkF (v4.setCell ⟨bb, 0, none⟩ (.slice (some ⟨mb, 0, none⟩) gn gn)) u.heap.size bb [.slice (some ⟨mb, 0, none⟩) gn gn]) := Lib.hid (BlkF.st (vs' := [.slice (some ⟨mb, 0, none⟩) gn gn]) HNbb.out rfl)
          have hTs : Below u.heap.size u (v4.setCell ⟨bb, 0, none⟩ (.slice (some ⟨mb, 0, none⟩) gn gn)) := stW_below HNbb.out.ge [.slice (some ⟨mb, 0, none⟩) gn gn] v4 0 hT4
          have u_0 := b1 HNbb.out
          have u_f := HNbb.out.fz
          go_simp
          go_wp2_with fail
          refine hK.out _ _ (HS.out _ hTs) (fun hHeld => ?_)
          clear hK K
          try simp only [Act.put, sA, sB, sC]
          clear u_f u_0
          have H2HNab : Hid (BlkF (v4.setCell ⟨bb, 0, none⟩ (.slice (some ⟨mb, 0, none⟩) gn gn)) u.heap.size ab _) := Lib.hid (HNab.out.other (c := bb) (i := 0) (l := [.slice (some ⟨mb, 0, none⟩) gn gn]) (by have := HNab.out.lt; omega))
          have H2HNmb : Hid (BlkF (v4.setCell ⟨bb, 0, none⟩ (.slice (some ⟨mb, 0, none⟩) gn gn)) u.heap.size mb _) := Lib.hid (HNmb.out.other (c := bb) (i := 0) (l := [.slice (some ⟨mb, 0, none⟩) gn gn]) (by have := HNmb.out.lt; omega))
          clear HNbb
          generalize hs4 : (v4.setCell ⟨bb, 0, none⟩ (.slice (some ⟨mb, 0, none⟩) gn gn)) = v5 at *
          clear hs4
          have hT5 := hTs
          clear hTs
          have HNbb := HBs
          clear HBs
          replace HNab := H2HNab
          replace HNmb := H2HNmb
          refine wpAnyH_done (by kernel_rfl) ?_ _
          clear HS hHeld
          have ge1 := HNab.out.ge
          have ge2 := HNbb.out.ge
          have ge3 := HNmb.out.ge
          go_wp2_with fail
          gi_meet
          exact ⟨ab, bb, mb, rfl, rfl, by omega, by omega, by omega, by omega, by omega, by omega, by rw [← hz]; exact HNab.out, by rw [← hz]; exact HNbb.out, by rw [← hz]; exact HNmb.out, by rw [← hz, HU.out]; exact hT5⟩
  case rest =>
    obtain ⟨ab, bb, mb, rfl, rfl, d1, d2, d3, ga, gb, gm, ZA, ZB, ZM, hBc⟩ := hcut
    have hz1 : (W.alloc (.cells #[.func (.yield l) #[] #[]] 114)).heap.size = W.heap.size + 1 := by simp
    have hBW : Below W.heap.size W wc := ((Below.refl _ _).alloc (Nat.le_refl _) _).trans (hBc.mono (by omega))
    have ZY := hyb.below (by rw [hz1]; exact hBc)
    have hMc := hM.below hBW
    have hRc := hRb.below hBW
    have hTc := Lib.hid (hTT.out.below hBW)
    have hJc := hJB 0 W wc h0 hBW
    obtain ⟨yb, hyb2⟩ : ∃ z, W.heap.size = z := ⟨_, rfl⟩
    have hbs1 : ∀ b ∈ bs, b < yb := fun b hb => by have := hbsw b hb; omega
    have l2 := ZM.lt
    have l3 := ZA.lt
    have l4 := ZB.lt
    obtain ⟨f0, f1, f2, f3, f4, f5⟩ : wc.cell? ⟨fb, 0, none⟩ = some (.string nm) ∧ wc.cell? ⟨fb, 1, none⟩ = some (.int .i64 s) ∧ wc.cell? ⟨fb, 2, none⟩ = some (.slice A gn gc) ∧ wc.cell? ⟨fb, 3, none⟩ = some (.slice B dn dc) ∧ wc.cell? ⟨fb, 4, none⟩ = some (.slice P (dn + 1) pc) ∧ wc.cell? ⟨fb, 5, none⟩ = some (.int .i64 E9) := ⟨hMc.c0, hMc.c1, hMc.c2, hMc.c3, hMc.c4, hMc.c5⟩
    rw [hyb2] at ZY ga gb gm ⊢
    clear hyb hz1 hBc
    gi_wp2_with fail
    refine ⟨trivial, fun _ => by omega, (callsIn_wide.2 (legs_is nm s A B P gn gc dn dc pc E9 _)).mono ?_⟩
    rintro e W0 ⟨rfl, hW0⟩
    have hb0 : Below wc.heap.size wc W0 := by rw [← hW0]; exact (Below.refl _ _).alloc (Nat.le_refl _) _
    have ZF : BlkF W0 0 wc.heap.size [.string nm, .int .i64 s, .slice A gn gc, .slice B dn dc, .slice P (dn + 1) pc, .int .i64 E9] := by rw [← hW0]; exact BlkF.made (B := 0) wc [.string nm, .int .i64 s, .slice A gn gc, .slice B dn dc, .slice P (dn + 1) pc, .int .i64 E9] 70 (Nat.zero_le _)
    have hsz : W0.heap.size = wc.heap.size + 1 := by rw [← hW0]; simp
    clear hW0 f0 f1 f2 f3 f4 f5
    obtain ⟨f2b, hf2⟩ : ∃ z, wc.heap.size = z := ⟨_, rfl⟩
    have hM0 : FolM (f2b :: bs) f2b nm s G D A B P gn gc dn dc pc E9 W0 := by
      have h := hMc.below hb0
      rw [hf2] at ZF
      obtain ⟨e0, e1, e2, e3, e4, e5⟩ := b6 ZF
      exact ⟨by simp, ZF.lt, e0, e1, e2, e3, e4, e5, h.ga.cons, h.le.cons, h.pt.cons⟩
    replace ZA := ZA.below hb0
    replace ZB := ZB.below hb0
    replace ZM := ZM.below hb0
    replace ZY := ZY.below hb0
    replace hRc := hRc.below hb0
    replace hTc := Lib.hid (hTc.out.below hb0)
    replace hJc := hJB 0 wc W0 hJc (hb0.mono hBW.size)
    obtain ⟨N, hN⟩ : ∃ N, W0.heap.size = N := ⟨_, rfl⟩
    have hbs : ∀ b ∈ f2b :: bs, b < W0.heap.size ∧ b ≠ mb := by
      intro b hb
      rcases List.mem_cons.1 hb with rfl | hb
      · omega
      · have := hbs1 b hb; omega
    have hcl : ∀ k, (conA r.br (legC s G D) gn (List.range k)).length = gn := fun k => (conA_snocL r.br (legC s G D) gn _ (List.range k) rfl).1
    have hne : ∀ k, ((conA r.br (legC s G D) gn (List.range k)).map fun x => Value.int .i64 x) ≠ [] := fun k h => by have := congrArg List.length h; rw [List.length_map, hcl k] at this; simp at this; omega
    rw [hf2] at ZF ⊢
    gi_wp2
    refine wpIn_rangeFunc_pos (Kt := KpB (f2b :: bs)) (K2 := KpB (f2b :: bs)) (by omega) (gf := 69) (lb := #[.pointer (some ⟨f2b, 0, none⟩)]) rfl (enters_of Tryz.func69 (by kernel_rfl) rfl)
      (legs_pos (n - 1) (by omega) (f2b :: bs) f2b nm s G D A B P gn gc dn dc pc E9 W0 hgn hdn hok hM0) KpB.trans (fun W l o o' hl h a b => KpB.put (N := W0.heap.size) (fun b hb => (hbs b hb).1) W l o o' hl h a b) (Below.refl _ _) (fun _ => rfl)
      (fun k X => (BlkF X 0 mb ((conA r.br (legC s G D) gn (List.range k)).map fun x => Value.int .i64 x) ∧ KeptO N mb W0 X) ∧ (k ≤ kk ∧ J 0 X))
      (fun c k X => c = .ret ∧ Jx 0 X)
      (OwnFrom.and (OwnFrom.and (fun k X Y row hs hg hr => blk_own (β := Unit) (hne k) () X Y row hs hg hr) (keptO_own (by omega) (by omega))) (fun k X Y row hs hg hr => ⟨hs.1, hJ 0 X Y row hs.2 hg (fun r e => ⟨by have := (hr r e).1; omega, (hr r e).2⟩)⟩))
      (fun c k X Y row hs hg hr => ⟨hs.1, hJx 0 X Y row hs.2 hg (fun r e => ⟨by have := (hr r e).1; omega, (hr r e).2⟩)⟩)
      (fun k X Y hs hb => ⟨⟨hs.1.1.low hb (by omega), hs.1.2.trans (KeptO.of_below (hb.mono (by omega)))⟩, hs.2.1, hJB 0 X Y hs.2.2 (hb.mono (by omega))⟩) (fun _ _ _ h _ => h)
      ⟨⟨by have := ZM.base0'; simpa [conA] using this, KeptO.refl _ _ _⟩, Nat.zero_le _, hJc⟩
      (fun k a' X => ∃ Bx t0 t1 t2 t8 t9 t10 t11 t12 t13 t14 t15 t16 t17 t18 t19 t20 t21 t22 t23 t24 t25 t26 t27 t28 t29 t30 t31 t32 t33 t34 t35 t36 t37 t38 t39 t40 t41 t42 t43 t44 t45 t46 t47 t48 t49 t50 t51 t52 t53 t54 t55 t56 t57 t58 t59 t60 t61 t62 t63 t64, N ≤ Bx ∧ BlkF X N Bx [.int .i64 (legC s G D k).s, .int .i64 (legC s G D k).d, .int .i64 (legC s G D k).g, .int .i64 (legC s G D k).nu, .int .i64 (legC s G D k).bs, .int .i64 (legC s G D k).bd, .int .i64 (legC s G D k).su, .int .i64 (legC s G D k).o, .int .i64 (legC s G D k).h] ∧ a' = { tmps := #[t0, t1, t2, .pointer (some ⟨rb, 0, none⟩), .pointer (some ⟨yb, 0, none⟩), .pointer (some ⟨ab, 0, none⟩), .pointer (some ⟨bb, 0, none⟩), .pointer (some ⟨Bx, 0, none⟩), t8, t9, t10, t11, t12, t13, t14, t15, t16, t17, t18, t19, t20, t21, t22, t23, t24, t25, t26, t27, t28, t29, t30, t31, t32, t33, t34, t35, t36, t37, t38, t39, t40, t41, t42, t43, t44, t45, t46, t47, t48, t49, t50, t51, t52, t53, t54, t55, t56, t57, t58, t59, t60, t61, t62, t63, t64], defers := [] })
      (fun k a' _ X Y row hs hg hr => by obtain ⟨Bx, t0, t1, t2, t8, t9, t10, t11, t12, t13, t14, t15, t16, t17, t18, t19, t20, t21, t22, t23, t24, t25, t26, t27, t28, t29, t30, t31, t32, t33, t34, t35, t36, t37, t38, t39, t40, t41, t42, t43, t44, t45, t46, t47, t48, t49, t50, t51, t52, t53, t54, t55, t56, t57, t58, t59, t60, t61, t62, t63, t64, h1, h2, h3⟩ := hs; exact ⟨Bx, t0, t1, t2, t8, t9, t10, t11, t12, t13, t14, t15, t16, t17, t18, t19, t20, t21, t22, t23, t24, t25, t26, t27, t28, t29, t30, t31, t32, t33, t34, t35, t36, t37, t38, t39, t40, t41, t42, t43, t44, t45, t46, t47, t48, t49, t50, t51, t52, t53, t54, t55, t56, t57, t58, t59, t60, t61, t62, t63, t64, h1, blk_own (β := Unit) (by simp) () X Y row h2 hg hr, h3⟩)
      ?assign ?body ?done ?stop
    case assign =>
      rintro l2 k X K hk hi hK
      have hko := hi.1.2
      have hNX : N ≤ X.heap.size := by rw [← hN]; exact hko.size
      gi_wp2
      have hb9 : Below X.heap.size X (X.alloc (.cells #[.int .i64 (legC s G D k).s, .int .i64 (legC s G D k).d, .int .i64 (legC s G D k).g, .int .i64 (legC s G D k).nu, .int .i64 (legC s G D k).bs, .int .i64 (legC s G D k).bd, .int .i64 (legC s G D k).su, .int .i64 (legC s G D k).o, .int .i64 (legC s G D k).h] 96)) := (Below.refl _ _).alloc (Nat.le_refl _) _
      refine hK _ _ (keepsFrom_below _ hb9) ((KeptO.of_below (N := N) (t := mb) (hb9.mono hNX)).kpB (by rw [← hN]; exact hbs)) ?_ ⟨X.heap.size, _, _, _, _, _, _, _, _, _, _, _, _, _, _, _, _, _, _, _, _, _, _, _, _, _, _, _, _, _, _, _, _, _, _, _, _, _, _, _, _, _, _, _, _, _, _, _, _, _, _, _, _, _, _, _, _, _, _, _, _, hNX, BlkF.made (B := N) X [.int .i64 (legC s G D k).s, .int .i64 (legC s G D k).d, .int .i64 (legC s G D k).g, .int .i64 (legC s G D k).nu, .int .i64 (legC s G D k).bs, .int .i64 (legC s G D k).bd, .int .i64 (legC s G D k).su, .int .i64 (legC s G D k).o, .int .i64 (legC s G D k).h] 96 hNX, rfl⟩
      exact ⟨⟨hi.1.1.below hb9, hko.trans (KeptO.of_below (hb9.mono hNX))⟩, hi.2.1, hJB 0 _ _ hi.2.2 (hb9.mono (by omega))⟩
    case body =>
      rintro l2 k a' X hl hk ⟨⟨HBm, hko⟩, hle, hJX⟩ ⟨Bx, t0, t1, t2, t8, t9, t10, t11, t12, t13, t14, t15, t16, t17, t18, t19, t20, t21, t22, t23, t24, t25, t26, t27, t28, t29, t30, t31, t32, t33, t34, t35, t36, t37, t38, t39, t40, t41, t42, t43, t44, t45, t46, t47, t48, t49, t50, t51, t52, t53, t54, t55, t56, t57, t58, t59, t60, t61, t62, t63, t64, hBx, HB9, rfl⟩
      have hNX : N ≤ X.heap.size := by rw [← hN]; exact hko.size
      obtain ⟨g9, hg0, hgl⟩ := legC_g hok.out k
      obtain ⟨yl, hyl⟩ : ∃ z, Hid (legC s G D k = z) := ⟨_, Lib.hid rfl⟩
      have hyo : Hid (PlOk yl) := Lib.hid (by rw [← hyl.out]; exact legC_ok hok.out k)
      have hsh : yl.s ≤ 20000 := by rw [← hyl.out]; exact hshort.out k
      rw [hyl.out] at HB9 hg0
      have hg9 := Lib.hid hg0
      rw [hg0] at HB9
      clear hg0
      have hgn2 : g9 < gn := by have := hgn.out; omega
      obtain ⟨L, hL⟩ : ∃ z, Hid (conA r.br (legC s G D) gn (List.range k) = z) := ⟨_, Lib.hid rfl⟩
      have hbr := hru.out.br
      have hLl : L.length = gn := by rw [← hL.out]; exact hcl k
      have hLb := (conA_snocL r.br (legC s G D) gn _ (List.range k) rfl).2 (legC_ok hok.out) hbr.1 hbr.2 g9
      rw [hL.out, List.length_range] at hLb
      obtain ⟨c9, hc9⟩ : ∃ z, Hid (L.getD g9 0 = z) := ⟨_, Lib.hid rfl⟩
      rw [hc9.out] at hLb
      have hlen2 : (k : Int) * 6220000000000000 ≤ 60 * 6220000000000000 := by omega
      have hys := hyo.out.s
      have hyb := hyo.out.bs
      have hc : X.cell? ⟨mb, g9, none⟩ = some (.int .i64 c9) := by
        have hg : (conA r.br (legC s G D) gn (List.range k))[g9]? = some c9 := by rw [hL.out, ← hc9.out, List.getD_eq_getElem?_getD, List.getElem?_eq_getElem (by omega)]; rfl
        exact HBm.at' g9 _ (by rw [List.getElem?_map, hg]; rfl)
      have hl1 : ab < X.heap.size := by omega
      have hl2 : bb < X.heap.size := by omega
      have hl3 : mb < X.heap.size := by omega
      have hrbl := hRb.lt
      have hl4 : rb < X.heap.size := by omega
      have hl5 : yb < X.heap.size := by omega
      obtain ⟨b0', b1', b2', b3', b4', b5', b6', b7', b8'⟩ := b9 HB9
      obtain ⟨w0, w1, w2, w3, w4, w5, w6, w7, w8⟩ := b9 hRc
      have ca : X.cell? ⟨ab, 0, none⟩ = some (.int .i64 t) := (hko.cell (by omega) (by omega) 0).trans (b1 ZA)
      have cb : X.cell? ⟨bb, 0, none⟩ = some (.slice (some ⟨mb, 0, none⟩) gn gn) := (hko.cell (by omega) (by omega) 0).trans (b1 ZB)
      have cy : X.cell? ⟨yb, 0, none⟩ = some (.func (.yield l) #[] #[]) := (hko.cell (by omega) (by omega) 0).trans (b1 ZY)
      replace w0 := (hko.cell (show rb < N by omega) (show rb ≠ mb by omega) 0).trans w0
      replace w1 := (hko.cell (show rb < N by omega) (show rb ≠ mb by omega) 1).trans w1
      replace w2 := (hko.cell (show rb < N by omega) (show rb ≠ mb by omega) 2).trans w2
      replace w3 := (hko.cell (show rb < N by omega) (show rb ≠ mb by omega) 3).trans w3
      replace w4 := (hko.cell (show rb < N by omega) (show rb ≠ mb by omega) 4).trans w4
      replace w5 := (hko.cell (show rb < N by omega) (show rb ≠ mb by omega) 5).trans w5
      replace w6 := (hko.cell (show rb < N by omega) (show rb ≠ mb by omega) 6).trans w6
      replace w7 := (hko.cell (show rb < N by omega) (show rb ≠ mb by omega) 7).trans w7
      replace w8 := (hko.cell (show rb < N by omega) (show rb ≠ mb by omega) 8).trans w8
      have q0 : ¬ (g9 : Int) < 0 := by omega
      have q1 : (g9 : Int) < (gn : Int) := by omega
      have hwE : IntKind.i64.wrap (yl.bs + yl.s) = yl.bs + yl.s := IntWalk.i64_in _ (by omega)
      have HS : Hid (∀ y, Below X.heap.size X y → y.cell? ⟨ab, 0, none⟩ = some (.int .i64 t) ∧ y.cell? ⟨bb, 0, none⟩ = some (.slice (some ⟨mb, 0, none⟩) gn gn) ∧ y.cell? ⟨Bx, 0, none⟩ = some (.int .i64 yl.s) ∧ y.cell? ⟨Bx, 1, none⟩ = some (.int .i64 yl.d) ∧ y.cell? ⟨Bx, 2, none⟩ = some (.int .i64 (g9 : Int)) ∧ y.cell? ⟨Bx, 3, none⟩ = some (.int .i64 yl.nu) ∧ y.cell? ⟨Bx, 4, none⟩ = some (.int .i64 yl.bs) ∧ y.cell? ⟨Bx, 5, none⟩ = some (.int .i64 yl.bd) ∧ y.cell? ⟨Bx, 6, none⟩ = some (.int .i64 yl.su) ∧ y.cell? ⟨Bx, 7, none⟩ = some (.int .i64 yl.o) ∧ y.cell? ⟨Bx, 8, none⟩ = some (.int .i64 yl.h) ∧ y.cell? ⟨mb, g9, none⟩ = some (.int .i64 c9) ∧ y.cell? ⟨rb, 0, none⟩ = some (.slice AT tn tc) ∧ y.cell? ⟨rb, 1, none⟩ = some (.int .i64 r.a) ∧ y.cell? ⟨rb, 2, none⟩ = some (.int .i64 r.b) ∧ y.cell? ⟨rb, 3, none⟩ = some (.int .i64 r.nc) ∧ y.cell? ⟨rb, 4, none⟩ = some (.int .i64 r.dn) ∧ y.cell? ⟨rb, 5, none⟩ = some (.int .i64 r.br) ∧ y.cell? ⟨rb, 6, none⟩ = some (.int .i64 r.em) ∧ y.cell? ⟨rb, 7, none⟩ = some (.int .i64 r.pa) ∧ y.cell? ⟨rb, 8, none⟩ = some (.int .i64 r.sc)) := Lib.hid fun y hy => ⟨(hy.cell (p := ⟨ab, 0, none⟩) hl1).trans ca, (hy.cell (p := ⟨bb, 0, none⟩) hl2).trans cb, (hy.cell (p := ⟨Bx, 0, none⟩) HB9.lt).trans b0', (hy.cell (p := ⟨Bx, 1, none⟩) HB9.lt).trans b1', (hy.cell (p := ⟨Bx, 2, none⟩) HB9.lt).trans b2', (hy.cell (p := ⟨Bx, 3, none⟩) HB9.lt).trans b3', (hy.cell (p := ⟨Bx, 4, none⟩) HB9.lt).trans b4', (hy.cell (p := ⟨Bx, 5, none⟩) HB9.lt).trans b5', (hy.cell (p := ⟨Bx, 6, none⟩) HB9.lt).trans b6', (hy.cell (p := ⟨Bx, 7, none⟩) HB9.lt).trans b7', (hy.cell (p := ⟨Bx, 8, none⟩) HB9.lt).trans b8', (hy.cell (p := ⟨mb, g9, none⟩) hl3).trans hc, (hy.cell (p := ⟨rb, 0, none⟩) hl4).trans w0, (hy.cell (p := ⟨rb, 1, none⟩) hl4).trans w1, (hy.cell (p := ⟨rb, 2, none⟩) hl4).trans w2, (hy.cell (p := ⟨rb, 3, none⟩) hl4).trans w3, (hy.cell (p := ⟨rb, 4, none⟩) hl4).trans w4, (hy.cell (p := ⟨rb, 5, none⟩) hl4).trans w5, (hy.cell (p := ⟨rb, 6, none⟩) hl4).trans w6, (hy.cell (p := ⟨rb, 7, none⟩) hl4).trans w7, (hy.cell (p := ⟨rb, 8, none⟩) hl4).trans w8⟩
      have hec : endC s G D k = yl.bs + yl.s := by unfold endC; rw [hyl.out]
      gi_wp2
      gi_loopw [8] (fun _ wr => wr = X) (fun _ _ => 0)
      case atStart => rfl
      case round =>
        have hwr : X = wr := hrel.symm
        subst hwr
        by_cases hkk2 : k < kk
        · have hlt := hbefore.out k hkk2
          rw [hec] at hlt
          have hle2 : ¬ t ≤ yl.bs + yl.s := by omega
          obtain ⟨b9q, hb9q⟩ : ∃ z, Hid (brV yl r.br = z) := ⟨_, Lib.hid rfl⟩
          have hbq := brV_bd hyo.out hbr.1 hbr.2
          rw [hb9q.out] at hbq
          obtain ⟨s9, hs9⟩ : ∃ z, Hid (c9 + b9q = z) := ⟨_, Lib.hid rfl⟩
          have hwS : IntKind.i64.wrap (c9 + b9q) = s9 := by rw [IntWalk.i64_in _ (by omega)]; exact hs9.out
          have HBR : Hid (∀ X : World, Calls Tryz.prog 45 #[.agg #[.int .i64 yl.s, .int .i64 yl.d, .int .i64 (g9 : Int), .int .i64 yl.nu, .int .i64 yl.bs, .int .i64 yl.bd, .int .i64 yl.su, .int .i64 yl.o, .int .i64 yl.h], .int .i64 r.br] X fun e w' => e = .returned (.int .i64 b9q) ∧ Below X.heap.size X w') := Lib.hid fun X => by
            have h := breathed_is yl r.br b9q X hyo hbr.1 hbr.2 hb9q
            rw [hg9.out] at h
            exact h
          gi_wp2
          clear ca cb cy b0' b1' b2' b3' b4' b5' b6' b7' b8' w0 w1 w2 w3 w4 w5 w6 w7 w8 hc hwE hY hbq
          refine wpIn_round_heldZ (S := (fun w' => w'.cell? ⟨ab, 0, none⟩ = some (.int .i64 t) ∧ w'.cell? ⟨bb, 0, none⟩ = some (.slice (some ⟨mb, 0, none⟩) gn gn) ∧ w'.cell? ⟨Bx, 0, none⟩ = some (.int .i64 yl.s) ∧ w'.cell? ⟨Bx, 1, none⟩ = some (.int .i64 yl.d) ∧ w'.cell? ⟨Bx, 2, none⟩ = some (.int .i64 (g9 : Int)) ∧ w'.cell? ⟨Bx, 3, none⟩ = some (.int .i64 yl.nu) ∧ w'.cell? ⟨Bx, 4, none⟩ = some (.int .i64 yl.bs) ∧ w'.cell? ⟨Bx, 5, none⟩ = some (.int .i64 yl.bd) ∧ w'.cell? ⟨Bx, 6, none⟩ = some (.int .i64 yl.su) ∧ w'.cell? ⟨Bx, 7, none⟩ = some (.int .i64 yl.o) ∧ w'.cell? ⟨Bx, 8, none⟩ = some (.int .i64 yl.h) ∧ w'.cell? ⟨mb, g9, none⟩ = some (.int .i64 c9) ∧ w'.cell? ⟨rb, 0, none⟩ = some (.slice AT tn tc) ∧ w'.cell? ⟨rb, 1, none⟩ = some (.int .i64 r.a) ∧ w'.cell? ⟨rb, 2, none⟩ = some (.int .i64 r.b) ∧ w'.cell? ⟨rb, 3, none⟩ = some (.int .i64 r.nc) ∧ w'.cell? ⟨rb, 4, none⟩ = some (.int .i64 r.dn) ∧ w'.cell? ⟨rb, 5, none⟩ = some (.int .i64 r.br) ∧ w'.cell? ⟨rb, 6, none⟩ = some (.int .i64 r.em) ∧ w'.cell? ⟨rb, 7, none⟩ = some (.int .i64 r.pa) ∧ w'.cell? ⟨rb, 8, none⟩ = some (.int .i64 r.sc))) 12 (by kernel_rfl) (by kernel_rfl) (not_letsOut_block not_letsOut_pos) (by kernel_rfl) (by kernel_rfl) (HS.out _ (Below.refl _ _).drew) (fun hHeld => ?_)
          have hT0 : Below X.heap.size X X.drew := (Below.refl _ _).drew
          generalize hdr : X.drew = v0 at *
          clear hdr
          refine wpAnyZ_take (i := 0) (oi := ⟨some 53, _, _, _, _, _⟩) (v := ?_) (by kernel_rfl) (by kernel_rfl) rfl rfl (by kernel_rfl) (by kernel_rfl) (by kernel_rfl) (fun _ _ _ h => h) (Or.inl ⟨by kernel_rfl, ?_⟩) (by assumption) ?_
          rotate_left
          · (intro w hSw; (try dsimp only at hSw); go_simp; all_goals with_reducible rfl)
          try simp only [Act.put, sA, sB, sC]
          refine wpAnyZ_take (i := 1) (oi := ⟨some 54, _, _, _, _, _⟩) (v := ?_) (by kernel_rfl) (by kernel_rfl) rfl rfl (by kernel_rfl) (by kernel_rfl) (by kernel_rfl) (fun _ _ _ h => h) (Or.inl ⟨by kernel_rfl, ?_⟩) (by assumption) ?_
          rotate_left
          · (intro w hSw; (try dsimp only at hSw); go_simp; all_goals with_reducible rfl)
          try simp only [Act.put, sA, sB, sC]
          refine wpAnyZ_take (i := 2) (oi := ⟨some 55, _, _, _, _, _⟩) (v := ?_) (by kernel_rfl) (by kernel_rfl) rfl rfl (by kernel_rfl) (by kernel_rfl) (by kernel_rfl) (fun _ _ _ h => h) (Or.inl ⟨by kernel_rfl, ?_⟩) (by assumption) ?_
          rotate_left
          · (intro w hSw; (try dsimp only at hSw); go_simp; all_goals with_reducible rfl)
          try simp only [Act.put, sA, sB, sC]
          refine wpAnyZ_take (i := 3) (oi := ⟨some 56, _, _, _, _, _⟩) (v := ?_) (by kernel_rfl) (by kernel_rfl) rfl rfl (by kernel_rfl) (by kernel_rfl) (by kernel_rfl) (fun _ _ _ h => h) (Or.inl ⟨by kernel_rfl, ?_⟩) (by assumption) ?_
          rotate_left
          · (intro w hSw; (try dsimp only at hSw); go_simp; all_goals with_reducible rfl)
          try simp only [Act.put, sA, sB, sC]
          refine wpAnyZ_take (i := 4) (oi := ⟨some 57, _, _, _, _, _⟩) (v := ?_) (by kernel_rfl) (by kernel_rfl) rfl rfl (by kernel_rfl) (by kernel_rfl) (by kernel_rfl) (fun _ _ _ h => h) (Or.inl ⟨by kernel_rfl, ?_⟩) (by assumption) ?_
          rotate_left
          · (intro w hSw; (try dsimp only at hSw); go_simp; all_goals with_reducible rfl)
          try simp only [Act.put, sA, sB, sC]
          refine wpAnyZ_take (i := 5) (oi := ⟨some 58, _, _, _, _, _⟩) (v := ?_) (by kernel_rfl) (by kernel_rfl) rfl rfl (by kernel_rfl) (by kernel_rfl) (by kernel_rfl) (fun _ _ _ h => h) (Or.inl ⟨by kernel_rfl, ?_⟩) (by assumption) ?_
          rotate_left
          · (intro w hSw; (try dsimp only at hSw); go_simp; all_goals with_reducible rfl)
          try simp only [Act.put, sA, sB, sC]
          refine wpAnyZ_take (i := 6) (oi := ⟨some 59, _, _, _, _, _⟩) (v := ?_) (by kernel_rfl) (by kernel_rfl) rfl rfl (by kernel_rfl) (by kernel_rfl) (by kernel_rfl) (fun _ _ _ h => h) (Or.inl ⟨by kernel_rfl, ?_⟩) (by assumption) ?_
          rotate_left
          · (intro w hSw; (try dsimp only at hSw); go_simp; all_goals with_reducible rfl)
          try simp only [Act.put, sA, sB, sC]
          refine wpAnyZ_take (i := 7) (oi := ⟨some 60, _, _, _, _, _⟩) (v := ?_) (by kernel_rfl) (by kernel_rfl) rfl rfl (by kernel_rfl) (by kernel_rfl) (by kernel_rfl) (fun _ _ _ h => h) (Or.inl ⟨by kernel_rfl, ?_⟩) (by assumption) ?_
          rotate_left
          · (intro w hSw; (try dsimp only at hSw); go_simp; all_goals with_reducible rfl)
          try simp only [Act.put, sA, sB, sC]
          refine wpAnyZ_take (i := 8) (oi := ⟨some 61, _, _, _, _, _⟩) (v := ?_) (by kernel_rfl) (by kernel_rfl) rfl rfl (by kernel_rfl) (by kernel_rfl) (by kernel_rfl) (fun _ _ _ h => h) (Or.inl ⟨by kernel_rfl, ?_⟩) (by assumption) ?_
          rotate_left
          · (intro w hSw; (try dsimp only at hSw); go_simp; all_goals with_reducible rfl)
          try simp only [Act.put, sA, sB, sC]
          refine wpAnyZ_call (q := 9) (by kernel_rfl) rfl rfl (fun K hK => ?_)
          go_simp
          refine (HBR.out _).mono ?_
          rintro e v1 ⟨rfl, hbv0⟩
          have hT1 : Below X.heap.size X v1 := hT0.trans (hbv0.mono hT0.size)
          clear hbv0
          go_wp2_with fail
          refine hK.out _ _ (HS.out _ hT1) (fun hHeld => ?_)
          clear hK K
          try simp only [Act.put, sA, sB, sC]
          refine wpAnyZ_take (i := 10) (oi := ⟨some 63, _, _, _, _, _⟩) (v := ?_) (by kernel_rfl) (by kernel_rfl) rfl rfl (by kernel_rfl) (by kernel_rfl) (by kernel_rfl) (fun _ _ _ h => h) (Or.inl ⟨by kernel_rfl, ?_⟩) (by assumption) ?_
          rotate_left
          · (intro w hSw; (try dsimp only at hSw); go_simp; all_goals with_reducible rfl)
          try simp only [Act.put, sA, sB, sC]
          refine wpAnyZ_take (i := 11) (oi := ⟨some 64, _, _, _, _, _⟩) (v := ?_) (by kernel_rfl) (by kernel_rfl) rfl rfl (by kernel_rfl) (by kernel_rfl) (by kernel_rfl) (fun _ _ _ h => h) (Or.inl ⟨by kernel_rfl, ?_⟩) (by assumption) ?_
          rotate_left
          · (intro w hSw; (try dsimp only at hSw); go_simp; all_goals with_reducible rfl)
          try simp only [Act.put, sA, sB, sC]
          have HTV := Lib.hid hT1
          have HBM := HBm.low hT1 hl3
          have hfz := HBM.fz g9
          have hcl9 := (HS.out _ hT1).2.2.2.2.2.2.2.2.2.2.2.1
          refine wpAnyZ_last (by kernel_rfl) rfl (fun K hK => ?_)
          go_simp
          go_wp2_with fail
          refine hK.out _ _ ?_
          clear hK K
          try simp only [Act.put, sA, sB, sC]
          have k2 := HBM.set1 (i := g9) (by rw [List.length_map, hcl k]; omega) (.int .i64 s9)
          have k6 : KeptO N mb v1 (v1.setCell ⟨mb, g9, none⟩ (.int .i64 s9)) := ⟨by simp, fun b _ hn => Below.heap_setCell _ _ _ b (fun e => hn (by rw [e]))⟩
          have k5 : Below mb v1 (v1.setCell ⟨mb, g9, none⟩ (.int .i64 s9)) := (Below.refl _ _).setCell (p := ⟨mb, g9, none⟩) (Nat.le_refl _) _
          refine ⟨(keepsFrom_below _ HTV.out).trans ((KeepsOthers.setCell _ _ _).from _), (((KeptO.of_below (HTV.out.mono hNX)).trans k6).kpB (by rw [← hN]; exact hbs)), ⟨?_, hko.trans ((KeptO.of_below (HTV.out.mono hNX)).trans k6)⟩, by omega, hJB 0 _ _ hJX ((HTV.out.mono (by omega)).trans (k5.mono (by omega)))⟩
          have e9 : conA r.br (legC s G D) gn (List.range (k + 1)) = L.set g9 s9 := by rw [List.range_succ, conA_snoc, hL.out, hyl.out]; unfold conStep; rw [hg9.out, Int.toNat_natCast, hc9.out, hb9q.out, hs9.out]
          rw [hL.out] at k2
          rw [e9, List.map_set]
          exact k2
        · obtain rfl : k = kk := by omega
          have hle2 : t ≤ yl.bs + yl.s := by have := hend.out; rw [hec] at this; exact this
          have hbe := hbeg.out
          rw [hyl.out] at hbe
          obtain ⟨q9, hq9⟩ : ∃ z, Hid (t - yl.bs = z) := ⟨_, Lib.hid rfl⟩
          have hq9' := hq9.out
          have hwQ : IntKind.i64.wrap (t - yl.bs) = q9 := by rw [IntWalk.i64_in _ (by omega)]; exact hq9.out
          have qa : 0 ≤ q9 := by omega
          have qb : q9 ≤ yl.s := by omega
          clear hq9'
          obtain ⟨n9, hn9⟩ : ∃ z, Hid (nedV yl r q9 = z) := ⟨_, Lib.hid rfl⟩
          have hnb : 0 ≤ n9 ∧ n9 ≤ 2600000000000000000 := by
            rw [← hn9.out]
            have hd := dep_bd hyo.out qa qb
            have h1 := binV_bd hyo.out hbr.1 hbr.2 qa qb hsh
            have h2 := escV_bd (T := T) (su := yl.su) hru.out hyo.out.su.1 hyo.out.su.2 hd.2.2.2.2.2.1 hd.2.2.2.2.2.2
            unfold nedV
            omega
          have hgg : g9 = gk := by have h1 := hgk.out; have h2 := hg9.out; rw [hyl.out] at h1; omega
          subst hgg
          have ham2 : c9 + n9 = am := by
            have h := ham.out
            rw [hL.out, hyl.out, hq9.out, hn9.out, hc9.out] at h
            exact h
          have hwS : IntKind.i64.wrap (c9 + n9) = am := by rw [IntWalk.i64_in _ (by omega)]; exact ham2
          clear ham2
          have HNI : Hid (∀ X : World, Calls Tryz.prog 60 #[.agg #[.int .i64 yl.s, .int .i64 yl.d, .int .i64 (g9 : Int), .int .i64 yl.nu, .int .i64 yl.bs, .int .i64 yl.bd, .int .i64 yl.su, .int .i64 yl.o, .int .i64 yl.h], .agg #[.slice AT tn tc, .int .i64 r.a, .int .i64 r.b, .int .i64 r.nc, .int .i64 r.dn, .int .i64 r.br, .int .i64 r.em, .int .i64 r.pa, .int .i64 r.sc], .int .i64 q9] X fun e w' => e = .returned (.int .i64 n9) ∧ Below X.heap.size X w') := Lib.hid fun X => by
            have h := needIn_is yl T r AT tn tc q9 n9 X hyo hru qa qb hsh hn9
            rw [hg9.out] at h
            exact h
          gi_wp2
          clear ca cb b0' b1' b2' b3' b4' b5' b6' b7' b8' w0 w1 w2 w3 w4 w5 w6 w7 w8 hc hwE hnb hLb hlen2
          refine wpIn_np ?_
          refine wpIn_round_held (S := (fun w' => w'.cell? ⟨ab, 0, none⟩ = some (.int .i64 t) ∧ w'.cell? ⟨bb, 0, none⟩ = some (.slice (some ⟨mb, 0, none⟩) gn gn) ∧ w'.cell? ⟨Bx, 0, none⟩ = some (.int .i64 yl.s) ∧ w'.cell? ⟨Bx, 1, none⟩ = some (.int .i64 yl.d) ∧ w'.cell? ⟨Bx, 2, none⟩ = some (.int .i64 (g9 : Int)) ∧ w'.cell? ⟨Bx, 3, none⟩ = some (.int .i64 yl.nu) ∧ w'.cell? ⟨Bx, 4, none⟩ = some (.int .i64 yl.bs) ∧ w'.cell? ⟨Bx, 5, none⟩ = some (.int .i64 yl.bd) ∧ w'.cell? ⟨Bx, 6, none⟩ = some (.int .i64 yl.su) ∧ w'.cell? ⟨Bx, 7, none⟩ = some (.int .i64 yl.o) ∧ w'.cell? ⟨Bx, 8, none⟩ = some (.int .i64 yl.h) ∧ w'.cell? ⟨mb, g9, none⟩ = some (.int .i64 c9) ∧ w'.cell? ⟨rb, 0, none⟩ = some (.slice AT tn tc) ∧ w'.cell? ⟨rb, 1, none⟩ = some (.int .i64 r.a) ∧ w'.cell? ⟨rb, 2, none⟩ = some (.int .i64 r.b) ∧ w'.cell? ⟨rb, 3, none⟩ = some (.int .i64 r.nc) ∧ w'.cell? ⟨rb, 4, none⟩ = some (.int .i64 r.dn) ∧ w'.cell? ⟨rb, 5, none⟩ = some (.int .i64 r.br) ∧ w'.cell? ⟨rb, 6, none⟩ = some (.int .i64 r.em) ∧ w'.cell? ⟨rb, 7, none⟩ = some (.int .i64 r.pa) ∧ w'.cell? ⟨rb, 8, none⟩ = some (.int .i64 r.sc))) (by kernel_rfl) (by kernel_rfl) not_letsOut_np (HS.out _ (Below.refl _ _).drew) (fun hHeld => ?_)
          have hT0 : Below X.heap.size X X.drew := (Below.refl _ _).drew
          generalize hdr : X.drew = v0 at *
          clear hdr
          refine tkH 0 ⟨some 29, _, _, _, _, _⟩ ?_ rfl ?_ (by assumption) ?_
          rotate_left
          · (intro w hSw; (try dsimp only at hSw); go_simp; all_goals with_reducible rfl)
          try simp only [Act.put, sA, sB, sC]
          refine tkH 1 ⟨some 30, _, _, _, _, _⟩ ?_ rfl ?_ (by assumption) ?_
          rotate_left
          · (intro w hSw; (try dsimp only at hSw); go_simp; all_goals with_reducible rfl)
          try simp only [Act.put, sA, sB, sC]
          refine tkH 2 ⟨some 31, _, _, _, _, _⟩ ?_ rfl ?_ (by assumption) ?_
          rotate_left
          · (intro w hSw; (try dsimp only at hSw); go_simp; all_goals with_reducible rfl)
          try simp only [Act.put, sA, sB, sC]
          refine tkH 3 ⟨some 32, _, _, _, _, _⟩ ?_ rfl ?_ (by assumption) ?_
          rotate_left
          · (intro w hSw; (try dsimp only at hSw); go_simp; all_goals with_reducible rfl)
          try simp only [Act.put, sA, sB, sC]
          refine tkH 4 ⟨some 33, _, _, _, _, _⟩ ?_ rfl ?_ (by assumption) ?_
          rotate_left
          · (intro w hSw; (try dsimp only at hSw); go_simp; all_goals with_reducible rfl)
          try simp only [Act.put, sA, sB, sC]
          refine tkH 5 ⟨some 34, _, _, _, _, _⟩ ?_ rfl ?_ (by assumption) ?_
          rotate_left
          · (intro w hSw; (try dsimp only at hSw); go_simp; all_goals with_reducible rfl)
          try simp only [Act.put, sA, sB, sC]
          refine tkH 6 ⟨some 35, _, _, _, _, _⟩ ?_ rfl ?_ (by assumption) ?_
          rotate_left
          · (intro w hSw; (try dsimp only at hSw); go_simp; all_goals with_reducible rfl)
          try simp only [Act.put, sA, sB, sC]
          refine tkH 7 ⟨some 36, _, _, _, _, _⟩ ?_ rfl ?_ (by assumption) ?_
          rotate_left
          · (intro w hSw; (try dsimp only at hSw); go_simp; all_goals with_reducible rfl)
          try simp only [Act.put, sA, sB, sC]
          refine tkH 8 ⟨some 37, _, _, _, _, _⟩ ?_ rfl ?_ (by assumption) ?_
          rotate_left
          · (intro w hSw; (try dsimp only at hSw); go_simp; all_goals with_reducible rfl)
          try simp only [Act.put, sA, sB, sC]
          refine tkH 9 ⟨some 38, _, _, _, _, _⟩ ?_ rfl ?_ (by assumption) ?_
          rotate_left
          · (intro w hSw; (try dsimp only at hSw); go_simp; all_goals with_reducible rfl)
          try simp only [Act.put, sA, sB, sC]
          refine tkH 10 ⟨some 39, _, _, _, _, _⟩ ?_ rfl ?_ (by assumption) ?_
          rotate_left
          · (intro w hSw; (try dsimp only at hSw); go_simp; all_goals with_reducible rfl)
          try simp only [Act.put, sA, sB, sC]
          refine tkH 11 ⟨some 40, _, _, _, _, _⟩ ?_ rfl ?_ (by assumption) ?_
          rotate_left
          · (intro w hSw; (try dsimp only at hSw); go_simp; all_goals with_reducible rfl)
          try simp only [Act.put, sA, sB, sC]
          refine tkH 12 ⟨some 41, _, _, _, _, _⟩ ?_ rfl ?_ (by assumption) ?_
          rotate_left
          · (intro w hSw; (try dsimp only at hSw); go_simp; all_goals with_reducible rfl)
          try simp only [Act.put, sA, sB, sC]
          refine wpAnyH_ready (rs := [13]) (by kernel_rfl) (by simp) ?_
          refine AllReadyH.cons rfl (fun K hK => ?_) (AllReadyH.nil)
          go_simp
          refine (HNI.out _).mono ?_
          rintro e v1 ⟨rfl, hbv0⟩
          have hT1 : Below X.heap.size X v1 := hT0.trans (hbv0.mono hT0.size)
          clear hbv0
          go_wp2_with fail
          refine hK.out _ _ (HS.out _ hT1) (fun hHeld => ?_)
          clear hK K
          try simp only [Act.put, sA, sB, sC]
          refine tkH 14 ⟨some 43, _, _, _, _, _⟩ ?_ rfl ?_ (by assumption) ?_
          rotate_left
          · (intro w hSw; (try dsimp only at hSw); go_simp; all_goals with_reducible rfl)
          try simp only [Act.put, sA, sB, sC]
          refine tkH 15 ⟨some 8, _, _, _, _, _⟩ ?_ rfl ?_ (by assumption) ?_
          rotate_left
          · (intro w hSw; (try dsimp only at hSw); go_simp; all_goals with_reducible rfl)
          try simp only [Act.put, sA, sB, sC]
          refine wpAnyH_done (by kernel_rfl) ?_ _
          obtain ⟨v, rfl⟩ : ∃ z, z = v1 := ⟨_, rfl⟩
          have hTv := hT1
          clear hHeld
          obtain ⟨i0, i1, j0, j1, j2, j3, j4, j5, j6, j7, j8, i2, m0, m1, m2, m3, m4, m5, m6, m7, m8⟩ := HS.out _ hTv
          have iy := (hTv.cell (p := ⟨yb, 0, none⟩) hl5).trans cy
          obtain ⟨fn, tmps, assign, body, hy, hR⟩ := hY 0 v (by decide) (hJB 0 _ _ hJX (hTv.mono (by omega)))
          clear HS
          gi_wp2
          have hR' : RoundIn (Fence.wide.inRound l2) (n - 1 - 1 - 1) Tryz.prog l fn tmps assign body v _ := hR
          refine ⟨fun _ => by omega, hR'.mono ?_⟩
          rintro e W3 ⟨hkf, (⟨rfl, _, hff⟩ | ⟨rfl, hjx⟩)⟩
          · exact hff.elim
          gi_wp2
          exact ⟨(keepsFrom_below _ hTv).trans ⟨hkf.size, fun k o hB h ho => hkf.same k o (by omega) h ho⟩, rfl, hjx⟩
    case done =>
      rintro Dq X hDq ⟨_, hle, _⟩ hK
      omega
    case stop =>
      rintro Dq c k X hDq hk ⟨rfl, hj⟩ hK
      gi_wp2
      refine ⟨by simp, .inl ⟨_, _, rfl, run_takeDeferred hK, ?_⟩⟩
      refine ⟨_, results_none rfl _ _ _, ⟨_, rfl⟩, .inr ⟨0, by decide, ?_⟩⟩
      exact OwnFrom.putObj hJx _ hj (by omega) hK rfl
end Go.Proofs.YtijdphlejokijaaGreat
