import Derived.Test.YtgidmmmdpmophaaRSFENdM
import Derived.OrdersHeld
import Derived.Deep.RegionHeld
import Derived.Outline
namespace Go.Proofs.Ytgidmmmdpmophaa
open Go.Shelf Go.ChangeShapes Go.WideShapes Go.ChangeAt Go.RowKit
set_option linter.unusedVariables false
set_option linter.unusedSimpArgs false
attribute [local go_sem ↓] Go.wp_at_zero Go.wp_at_succ
attribute [local go_sem] Oper.semAt_some
/-- Where the seconds stand ahead of a round of the inner loop. -/
def NdI (s : Int) (G : List Ga) (D : List Le) (t : Int) (k i : Nat) : Prop := (∀ j, j < k → endC s G D j < t + (i : Int)) ∧ (i = 0 ∨ t + (i : Int) ≤ endC s G D k + 1)
/-- Where the seconds stand ahead of a leg. -/
def NdO (s : Int) (G : List Ga) (D : List Le) (t : Int) (k i : Nat) : Prop := (∀ j, j < k → endC s G D j < t + (i : Int)) ∧ (i = 0 ∨ (0 < k ∧ t + (i : Int) = endC s G D (k - 1) + 1))
theorem ndO_I {nm : ByteArray} {s : Int} {G : List Ga} {D : List Le} {t : Int} {k i : Nat} (h : PlnOk nm s G D) (hk : k < D.length) (hn : NdO s G D t k i) : NdI s G D t k i := by
  refine ⟨hn.1, hn.2.imp id fun ⟨h1, h2⟩ => ?_⟩
  have h3 := sec_mono h (show k ≤ k + 1 by omega) (by omega)
  rw [endC_is (by omega), show k - 1 + 1 = k by omega] at h2
  rw [endC_is hk]
  omega
theorem ndI_step {s : Int} {G : List Ga} {D : List Le} {t : Int} {k i : Nat} (hn : NdI s G D t k i) (hle : t + (i : Int) ≤ endC s G D k) : NdI s G D t k (i + 1) :=
  ⟨fun j hj => by have := hn.1 j hj; omega, Or.inr (by omega)⟩
theorem ndI_out {s : Int} {G : List Ga} {D : List Le} {t : Int} {k i : Nat} (hn : NdI s G D t k i) (hle : ¬ t + (i : Int) ≤ endC s G D k) : NdO s G D t (k + 1) i := by
  refine ⟨fun j hj => ?_, hn.2.imp id fun h => ⟨by omega, by rw [Nat.add_sub_cancel]; omega⟩⟩
  by_cases e : j = k
  · rw [e]; omega
  · exact hn.1 j (by omega)
/-- How many seconds there are. -/
def ndN (D : List Le) (t : Int) : Nat := if D.length = 0 then 0 else (secT D D.length - t + 1).toNat
theorem ndO_end {s : Int} {G : List Ga} {D : List Le} {t : Int} {i : Nat} (ht : t ≤ secT D D.length) (hn : NdO s G D t D.length i) (h0 : D.length = 0 → i = 0) : i = ndN D t := by
  unfold ndN
  by_cases e : D.length = 0
  · rw [if_pos e]; exact h0 e
  · rw [if_neg e]
    have h1 := hn.1 (D.length - 1) (by omega)
    rw [endC_is (by omega), show D.length - 1 + 1 = D.length by omega] at h1
    rcases hn.2 with h | ⟨_, h⟩
    · omega
    · rw [endC_is (by omega), show D.length - 1 + 1 = D.length by omega] at h
      omega
theorem ndI_lt {nm : ByteArray} {s : Int} {G : List Ga} {D : List Le} {t : Int} {k i : Nat} (h : PlnOk nm s G D) (hk : k < D.length) (hle : t + (i : Int) ≤ endC s G D k) : i < ndN D t := by
  unfold ndN
  rw [if_neg (by omega)]
  rw [endC_is hk] at hle
  have := sec_mono h (show k + 1 ≤ D.length by omega) (Nat.le_refl _)
  omega
theorem ndI_leg {nm : ByteArray} {s : Int} {G : List Ga} {D : List Le} {t : Int} {k i : Nat} (h : PlnOk nm s G D) (hk : k < D.length) (hn : NdI s G D t k i) (hle : t + (i : Int) ≤ endC s G D k) : lgN D (t + (i : Int)) = k :=
  lgN_eq h hk (fun j hj => by have := hn.1 j hj; rw [endC_is (by omega)] at this; exact this) (by rw [endC_is hk] at hle; exact hle)
/-- The measure of the loop over the seconds. -/
def atM (ab : Nat) (E : Int) (X : World) : Nat := (E + 2 - (match X.cell? ⟨ab, 0, none⟩ with | some v => intOf v | none => 0)).toNat
/-- What a round keeps: every block of cells but some. -/
def KeepX (xs : List Nat) (A B : World) : Prop := A.heap.size ≤ B.heap.size ∧ ∀ b o, b ∉ xs → A.heap[b]? = some o → o.isCells = true → B.heap[b]? = some o
theorem KeepX.refl (xs : List Nat) (A : World) : KeepX xs A A := ⟨Nat.le_refl _, fun _ _ _ h _ => h⟩
theorem KeepX.trans {xs : List Nat} {A B C : World} (h : KeepX xs A B) (k : KeepX xs B C) : KeepX xs A C := ⟨Nat.le_trans h.1 k.1, fun b o hb ho hc => k.2 b o hb (h.2 b o hb ho hc) hc⟩
theorem keepX_of_below {xs : List Nat} {A B : World} (h : Below A.heap.size A B) : KeepX xs A B := ⟨h.size, fun b o _ ho _ => (h.block b (Array.getElem?_eq_some_iff.1 ho).1).trans ho⟩
theorem keepX_put {xs : List Nat} (W : World) (l : Nat) (o o' : Obj) (h : W.heap[l]? = some o) (hc : o.isCells = false) : KeepX xs W (W.putObj l o') := by
  refine ⟨by simp, fun b o2 _ ho hc2 => ?_⟩
  by_cases e : b = l
  · subst e; rw [h] at ho; cases ho; rw [hc] at hc2; cases hc2
  · exact (World.putObj_heap_other (by omega)).trans ho
theorem keepX_set {xs : List Nat} (W : World) (b i : Nat) (v : Value) (hb : b ∈ xs) : KeepX xs W (W.setCell ⟨b, i, none⟩ v) := ⟨by simp, fun c o hc ho _ => (Below.heap_setCell _ _ _ c (fun e => hc (by rw [e]; exact hb))).trans ho⟩
theorem cells_of {X : World} {b i : Nat} {v : Value} (h : X.cell? ⟨b, i, none⟩ = some v) : ∃ o, X.heap[b]? = some o ∧ o.isCells = true := by
  cases ho : X.heap[b]? with
  | none => simp only [World.cell?, ho] at h; cases h
  | some o => exact ⟨o, rfl, by cases hc : o.isCells with | true => rfl | false => exact (cell_cells h ho hc).elim⟩
theorem blkF_of {A B : World} {N b : Nat} {vs : List Value} (h : BlkF A N b vs) (hs : A.heap.size ≤ B.heap.size) (e : B.heap[b]? = A.heap[b]?) : BlkF B N b vs := by
  refine ⟨h.ge, Nat.lt_of_lt_of_le h.lt hs, fun i v hv => (World.cell?_of_block (a := ⟨b, i, none⟩) e).trans (h.at' i v hv), fun j => ?_⟩
  have := h.fz j
  unfold World.frozen? at this ⊢
  rw [show B.heap[(⟨b, j, none⟩ : Addr).block]? = A.heap[(⟨b, j, none⟩ : Addr).block]? from e]
  exact this
theorem keepX_blkL {xs : List Nat} {A B : World} {N b : Nat} {vs : List Value} (k : KeepX xs A B) (h : BlkF A N b vs) (hv : 0 < vs.length) (hx : b ∉ xs) : BlkF B N b vs := by
  obtain ⟨o, ho, hc⟩ := cells_of (h.at' 0 _ (List.getElem?_eq_getElem hv))
  exact blkF_of h k.1 ((k.2 b o hx ho hc).trans ho.symm)
theorem keepX_blk {xs : List Nat} {A B : World} {N b : Nat} {v : Value} {vs : List Value} (k : KeepX xs A B) (h : BlkF A N b (v :: vs)) (hx : b ∉ xs) : BlkF B N b (v :: vs) := keepX_blkL k h (by simp) hx
theorem keepX_kpB {xs bs : List Nat} {A B : World} (k : KeepX xs A B) (h : ∀ b ∈ bs, b ∉ xs ∧ ∃ o, A.heap[b]? = some o ∧ o.isCells = true) : KpB bs A B := ⟨k.1, fun b hb => by
  obtain ⟨hx, o, ho, hc⟩ := h b hb
  exact (k.2 b o hx ho hc).trans ho.symm⟩
theorem kpB_sub {bs cs : List Nat} {A B : World} (h : KpB bs A B) (hs : ∀ b ∈ cs, b ∈ bs) : KpB cs A B := ⟨h.1, fun b hb => h.2 b (hs b hb)⟩
theorem kpB_cell {bs : List Nat} {A B : World} (h : KpB bs A B) {b : Nat} (hb : b ∈ bs) (i : Nat) : B.cell? ⟨b, i, none⟩ = A.cell? ⟨b, i, none⟩ := World.cell?_of_block (a := ⟨b, i, none⟩) (h.2 b hb)
theorem kpB_own {β : Type} {B : Nat} {bs : List Nat} {W0 : World} (hN : ∀ b ∈ bs, b < W0.heap.size) (hB : W0.heap.size ≤ B) : OwnFrom B (fun (_ : β) W => KpB bs W0 W) := by
  intro s X Y row hs hg hr
  refine ⟨Nat.le_trans hs.1 hg.size, fun b hb => (hg.block b (by have := hN b hb; have := hs.1; omega) (fun e => ?_)).trans (hs.2 b hb)⟩
  have := (hr b e.symm).1
  have := hN b hb
  omega
set_option maxRecDepth 100000 in
set_option maxHeartbeats 8000000 in
theorem needs_pos (n : Nat) (hn : 5 ≤ n) (bs : List Nat) (fb sb rb : Nat) (nm : ByteArray) (s : Int) (G : List Ga) (D : List Le) (A B P : Option Addr) (gn gc dn dc pc : Nat) (E9 : Int) (T : List Ox) (r : Ru) (AT : Option Addr) (tn tc : Nat) (t : Int) (xs : List Nat) (w : World) (hgn : Hid (gn = G.length)) (hdn : Hid (dn = D.length)) (hok : Hid (PlnOk nm s G D)) (hru : Hid (RuOk T r)) (hshort : Hid (∀ k, (legC s G D k).s ≤ 20000))
    (hM : FolM bs fb nm s G D A B P gn gc dn dc pc E9 w) (hbsw : ∀ b ∈ bs, b < w.heap.size) (hbsc : ∀ b ∈ bs, b ∉ xs ∧ ∃ o, w.heap[b]? = some o ∧ o.isCells = true) (hxs : ∀ b ∈ xs, b < w.heap.size) (hrx : rb ∉ xs) (hSb : BlkF w 0 sb [.int .i64 t]) (hRb : BlkF w 0 rb [.slice AT tn tc, .int .i64 r.a, .int .i64 r.b, .int .i64 r.nc, .int .i64 r.dn, .int .i64 r.br, .int .i64 r.em, .int .i64 r.pa, .int .i64 r.sc]) (t0 : 0 ≤ t) (t1 : Hid (t ≤ secT D D.length)) (hS9 : Hid (secT D D.length ≤ 20000)) :
    SeqP (n - 1 - 1 - 1) n Try.prog 53 #[.pointer (some ⟨sb, 0, none⟩), .pointer (some ⟨fb, 0, none⟩), .pointer (some ⟨rb, 0, none⟩)] (fun i => #[.int .i64 (ndG s G D (t + (i : Int)) : Int), .agg #[.int .i64 (ndV r s G D (t + (i : Int))), .int .i64 (t + (i : Int))]]) (KeepX xs) (ndN D t) w := by
  intro l J Jx W hW hJ hJx hJB hY h0
  replace hM := hM.below hW
  replace hSb := hSb.below hW
  replace hRb := hRb.below hW
  replace hbsc : ∀ b ∈ bs, b ∉ xs ∧ ∃ o, W.heap[b]? = some o ∧ o.isCells = true := fun b hb => ⟨(hbsc b hb).1, by obtain ⟨o, ho, hc⟩ := (hbsc b hb).2; exact ⟨o, (hW.block b (hbsw b hb)).trans ho, hc⟩⟩
  replace hbsw : ∀ b ∈ bs, b < W.heap.size := fun b hb => Nat.lt_of_lt_of_le (hbsw b hb) hW.size
  replace hxs : ∀ b ∈ xs, b < W.heap.size := fun b hb => Nat.lt_of_lt_of_le (hxs b hb) hW.size
  have g8 : gn ≤ 8 := by have := hok.out.g8; have := hgn.out; omega
  have g1 : 1 ≤ gn := by have := hok.out.g0; have := hgn.out; omega
  have d60 : dn ≤ 60 := by have := hok.out.d6; have := hdn.out; omega
  refine callsIn_of_wp_marks Try.func53 rfl trivial ?_ rfl
  simp only [Try.ntmps53, List.size_toArray, List.length_cons, List.length_nil, Nat.reduceAdd, Nat.reduceSub, Array.replicate_succ, Array.replicate_zero, List.push_toArray, List.append_toArray, List.nil_append, List.cons_append]
  have hyb := BlkF.made (B := W.heap.size) W [.func (.yield l) #[] #[]] 110 (Nat.le_refl _)
  gi_upto_region 1 with (fail)
  gi_cut [5, 6] from 9 (fun s5 s6 wc => ∃ ab bb mb, s5 = .pointer (some ⟨ab, 0, none⟩) ∧ s6 = .pointer (some ⟨bb, 0, none⟩) ∧ ab ≠ bb ∧ ab ≠ mb ∧ bb ≠ mb ∧ W.heap.size + 1 ≤ ab ∧ W.heap.size + 1 ≤ bb ∧ W.heap.size + 1 ≤ mb ∧ BlkF wc (W.heap.size + 1) ab [.int .i64 t] ∧ BlkF wc (W.heap.size + 1) bb [.slice (some ⟨mb, 0, none⟩) gn gn] ∧ BlkF wc (W.heap.size + 1) mb (List.replicate gn (.int .i64 0)) ∧ Below (W.heap.size + 1) (W.alloc (.cells #[.func (.yield l) #[] #[]] 110)) wc)
  case first =>
    refine wpIn_np ?_
    refine wpIn_wide.2 ?_
    have l0 := hSb.lt
    have l1 := hM.fl
    have e0 := b1 hSb
    have e1 := hM.c2
    obtain ⟨u, hu⟩ : ∃ u, W.alloc (.cells #[.func (.yield l) #[] #[]] 110) = u := ⟨_, rfl⟩
    have hbu : Below W.heap.size W u := by rw [← hu]; exact (Below.refl _ _).alloc (Nat.le_refl _) _
    have hz : u.heap.size = W.heap.size + 1 := by rw [← hu]; simp
    rw [hu]
    replace e0 := (hbu.cell (p := ⟨sb, 0, none⟩) l0).trans e0
    replace e1 := (hbu.cell (p := ⟨fb, 2, none⟩) l1).trans e1
    replace l0 : sb < u.heap.size := by omega
    replace l1 : fb < u.heap.size := by omega
    have HU := Lib.hid hu
    clear hu hyb hM hSb hRb hJ hJx hJB hY h0 hbsc
    have HS : Hid (∀ y, Below u.heap.size u y → y.cell? ⟨sb, 0, none⟩ = some (.int .i64 t) ∧ y.cell? ⟨fb, 2, none⟩ = some (.slice A gn gc)) := Lib.hid fun y hy => ⟨(hy.cell (p := ⟨sb, 0, none⟩) l0).trans e0, (hy.cell (p := ⟨fb, 2, none⟩) l1).trans e1⟩
    clear e0 e1
    refine wp_region_held_drew (S := (fun w' => w'.cell? ⟨sb, 0, none⟩ = some (.int .i64 t) ∧ w'.cell? ⟨fb, 2, none⟩ = some (.slice A gn gc))) (by kernel_rfl) (HS.out _ (Below.refl _ _).drew) (fun hHeld => ?_)
    have hT0 : Below u.heap.size u u.drew := (Below.refl _ _).drew
    generalize hdr : u.drew = v0 at *
    clear hdr
    refine tkH 0 ⟨some 9, _, _, _, _, _⟩ ?_ rfl ?_ (by assumption) ?_
    rotate_left
    · (intro w hSw; (try dsimp only at hSw); go_simp; all_goals with_reducible rfl)
    try simp only [Act.put, sA, sB, sC]
    refine tkH 1 ⟨some 10, _, _, _, _, _⟩ ?_ rfl ?_ (by assumption) ?_
    rotate_left
    · (intro w hSw; (try dsimp only at hSw); go_simp; all_goals with_reducible rfl)
    try simp only [Act.put, sA, sB, sC]
    refine tkH 2 ⟨some 11, _, _, _, _, _⟩ ?_ rfl ?_ (by assumption) ?_
    rotate_left
    · (intro w hSw; (try dsimp only at hSw); go_simp; all_goals with_reducible rfl)
    try simp only [Act.put, sA, sB, sC]
    refine tkH 3 ⟨some 12, _, _, _, _, _⟩ ?_ rfl ?_ (by assumption) ?_
    rotate_left
    · (intro w hSw; (try dsimp only at hSw); go_simp; all_goals with_reducible rfl)
    try simp only [Act.put, sA, sB, sC]
    refine tkH 4 ⟨some 13, _, _, _, _, _⟩ ?_ rfl ?_ (by assumption) ?_
    rotate_left
    · (intro w hSw; (try dsimp only at hSw); go_simp; all_goals with_reducible rfl)
    try simp only [Act.put, sA, sB, sC]
    refine wpAnyH_ready (rs := [5, 6, 7]) (by kernel_rfl) (by simp) ?_
    refine AllReadyH.cons rfl (fun K hK => ?_) (AllReadyH.cons rfl (fun K hK => ?_) (AllReadyH.cons rfl (fun K hK => ?_) (AllReadyH.nil)))
    · skip
      have hmk := fun (w : World) => mkIn8 g1 g8 w
      go_simp
      go_wp2_with fail
      refine hK.out _ _ (HS.out _ (hT0.alloc hT0.size _)) (fun hHeld => ?_)
      clear hK K
      try simp only [Act.put, sA, sB, sC]
      clear hmk
      have HNmb := Lib.hid (BlkF.made (B := u.heap.size) v0 (List.replicate gn (.int .i64 0)) 3 hT0.size)
      have hbv0 : Below v0.heap.size v0 (v0.alloc (.cells (Array.replicate gn (.int .i64 0)) 3)) := (Below.refl _ _).alloc (Nat.le_refl _) _
      have hnmb : u.heap.size ≤ v0.heap.size := hT0.size
      have exmb : ∃ x, v0.heap.size = x := ⟨_, rfl⟩
      replace HNmb : Hid (BlkF (v0.alloc (.cells (Array.replicate gn (.int .i64 0)) 3)) u.heap.size v0.heap.size (List.replicate gn (.int .i64 0))) := HNmb
      generalize hq0 : v0.alloc (.cells (Array.replicate gn (.int .i64 0)) 3) = v1 at *
      have hT1 : Below u.heap.size u v1 := hT0.trans (hbv0.mono hT0.size)
      obtain ⟨mb, emb⟩ := exmb
      rw [emb] at HNmb hnmb ⊢
      clear hbv0 hq0
      refine wpAnyH_ready (rs := [6, 7]) (by kernel_rfl) (by simp) ?_
      refine AllReadyH.cons rfl (fun K hK => ?_) (AllReadyH.cons rfl (fun K hK => ?_) (AllReadyH.nil))
      · skip
        go_simp
        go_wp2_with fail
        refine hK.out _ _ (HS.out _ (hT1.alloc hT1.size _)) (fun hHeld => ?_)
        clear hK K
        try simp only [Act.put, sA, sB, sC]
        have HNab := Lib.hid (BlkF.made (B := u.heap.size) v1 [.int .i64 0] 3 hT1.size)
        have hbv1 : Below v1.heap.size v1 (v1.alloc (.cells #[.int .i64 0] 3)) := (Below.refl _ _).alloc (Nat.le_refl _) _
        have hdabmb : mb < v1.heap.size := HNmb.out.lt
        replace HNmb := Lib.hid (HNmb.out.below hbv1)
        have hnab : u.heap.size ≤ v1.heap.size := hT1.size
        have exab : ∃ x, v1.heap.size = x := ⟨_, rfl⟩
        generalize hq1 : v1.alloc (.cells #[.int .i64 0] 3) = v2 at *
        have hT2 : Below u.heap.size u v2 := hT1.trans (hbv1.mono hT1.size)
        obtain ⟨ab, eab⟩ := exab
        rw [eab] at HNab hnab ⊢
        clear hbv1 hq1
        rw [eab] at hdabmb
        refine wpAnyH_ready (rs := [7]) (by kernel_rfl) (by simp) ?_
        refine AllReadyH.cons rfl (fun K hK => ?_) (AllReadyH.nil)
        go_simp
        go_wp2_with fail
        refine hK.out _ _ (HS.out _ (hT2.alloc hT2.size _)) (fun hHeld => ?_)
        clear hK K
        try simp only [Act.put, sA, sB, sC]
        have HNbb := Lib.hid (BlkF.made (B := u.heap.size) v2 [.slice none 0 0] 49 hT2.size)
        have hbv2 : Below v2.heap.size v2 (v2.alloc (.cells #[.slice none 0 0] 49)) := (Below.refl _ _).alloc (Nat.le_refl _) _
        have hdbbmb : mb < v2.heap.size := HNmb.out.lt
        have hdbbab : ab < v2.heap.size := HNab.out.lt
        replace HNmb := Lib.hid (HNmb.out.below hbv2)
        replace HNab := Lib.hid (HNab.out.below hbv2)
        have hnbb : u.heap.size ≤ v2.heap.size := hT2.size
        have exbb : ∃ x, v2.heap.size = x := ⟨_, rfl⟩
        generalize hq2 : v2.alloc (.cells #[.slice none 0 0] 49) = v3 at *
        have hT3 : Below u.heap.size u v3 := hT2.trans (hbv2.mono hT2.size)
        obtain ⟨bb, ebb⟩ := exbb
        rw [ebb] at HNbb hnbb ⊢
        clear hbv2 hq2
        rw [ebb] at hdbbmb
        rw [ebb] at hdbbab
        refine wpAnyH_ready (rs := [8]) (by kernel_rfl) (by simp) ?_
        refine AllReadyH.cons rfl (fun K hK => ?_) (AllReadyH.nil)
        have HBs : Hid (BlkF (v3.setCell ⟨ab, 0, none⟩ (.int .i64 t)) u.heap.size ab [.int .i64 t]) := Lib.hid (BlkF.st (vs' := [.int .i64 t]) HNab.out rfl)
        have hTs : Below u.heap.size u (v3.setCell ⟨ab, 0, none⟩ (.int .i64 t)) := stW_below HNab.out.ge [.int .i64 t] v3 0 hT3
        have u_0 := b1 HNab.out
        have u_f := HNab.out.fz
        go_simp
        go_wp2_with fail
        refine hK.out _ _ (HS.out _ hTs) (fun hHeld => ?_)
        clear hK K
        try simp only [Act.put, sA, sB, sC]
        clear u_f u_0
        have H2HNmb : Hid (BlkF (v3.setCell ⟨ab, 0, none⟩ (.int .i64 t)) u.heap.size mb _) := Lib.hid (HNmb.out.other (c := ab) (i := 0) (l := [.int .i64 t]) (by have := HNmb.out.lt; omega))
        have H2HNbb : Hid (BlkF (v3.setCell ⟨ab, 0, none⟩ (.int .i64 t)) u.heap.size bb _) := Lib.hid (HNbb.out.other (c := ab) (i := 0) (l := [.int .i64 t]) (by have := HNbb.out.lt; omega))
        clear HNab
        generalize hs3 : (v3.setCell ⟨ab, 0, none⟩ (.int .i64 t)) = v4 at *
        clear hs3
        have hT4 := hTs
        clear hTs
        have HNab := HBs
        clear HBs
        replace HNmb := H2HNmb
        replace HNbb := H2HNbb
        refine wpAnyH_ready (rs := [9]) (by kernel_rfl) (by simp) ?_
        refine AllReadyH.cons rfl (fun K hK => ?_) (AllReadyH.nil)
        have HBs : Hid (BlkF (v4.setCell ⟨bb, 0, none⟩ (.slice (some ⟨mb, 0, none⟩) gn gn)) u.heap.size bb [.slice (some ⟨mb, 0, none⟩) gn gn]) := Lib.hid (BlkF.st (vs' := [.slice (some ⟨mb, 0, none⟩) gn gn]) HNbb.out rfl)
        have hTs : Below u.heap.size u (v4.setCell ⟨bb, 0, none⟩ (.slice (some ⟨mb, 0, none⟩) gn gn)) := stW_below HNbb.out.ge [.slice (some ⟨mb, 0, none⟩) gn gn] v4 0 hT4
        have u_0 := b1 HNbb.out
        have u_f := HNbb.out.fz
        go_simp
        go_wp2_with fail
        refine hK.out _ _ (HS.out _ hTs) (fun hHeld => ?_)
        clear hK K
        try simp only [Act.put, sA, sB, sC]
        clear u_f u_0
        have H2HNmb : Hid (BlkF (v4.setCell ⟨bb, 0, none⟩ (.slice (some ⟨mb, 0, none⟩) gn gn)) u.heap.size mb _) := Lib.hid (HNmb.out.other (c := bb) (i := 0) (l := [.slice (some ⟨mb, 0, none⟩) gn gn]) (by have := HNmb.out.lt; omega))
        have H2HNab : Hid (BlkF (v4.setCell ⟨bb, 0, none⟩ (.slice (some ⟨mb, 0, none⟩) gn gn)) u.heap.size ab _) := Lib.hid (HNab.out.other (c := bb) (i := 0) (l := [.slice (some ⟨mb, 0, none⟩) gn gn]) (by have := HNab.out.lt; omega))
        clear HNbb
        generalize hs4 : (v4.setCell ⟨bb, 0, none⟩ (.slice (some ⟨mb, 0, none⟩) gn gn)) = v5 at *
        clear hs4
        have hT5 := hTs
        clear hTs
        have HNbb := HBs
        clear HBs
        replace HNmb := H2HNmb
        replace HNab := H2HNab
        refine wpAnyH_done (by kernel_rfl) ?_ _
        clear HS hHeld
        have ge1 := HNab.out.ge
        have ge2 := HNbb.out.ge
        have ge3 := HNmb.out.ge
        go_wp2_with fail
        gi_meet
        exact ⟨ab, bb, mb, rfl, rfl, by omega, by omega, by omega, by omega, by omega, by omega, by rw [← hz]; exact HNab.out, by rw [← hz]; exact HNbb.out, by rw [← hz]; exact HNmb.out, by rw [← hz, HU.out]; exact hT5⟩
      · skip
        go_simp
        go_wp2_with fail
        refine hK.out _ _ (HS.out _ (hT1.alloc hT1.size _)) (fun hHeld => ?_)
        clear hK K
        try simp only [Act.put, sA, sB, sC]
        have HNbb := Lib.hid (BlkF.made (B := u.heap.size) v1 [.slice none 0 0] 49 hT1.size)
        have hbv1 : Below v1.heap.size v1 (v1.alloc (.cells #[.slice none 0 0] 49)) := (Below.refl _ _).alloc (Nat.le_refl _) _
        have hdbbmb : mb < v1.heap.size := HNmb.out.lt
        replace HNmb := Lib.hid (HNmb.out.below hbv1)
        have hnbb : u.heap.size ≤ v1.heap.size := hT1.size
        have exbb : ∃ x, v1.heap.size = x := ⟨_, rfl⟩
        generalize hq1 : v1.alloc (.cells #[.slice none 0 0] 49) = v2 at *
        have hT2 : Below u.heap.size u v2 := hT1.trans (hbv1.mono hT1.size)
        obtain ⟨bb, ebb⟩ := exbb
        rw [ebb] at HNbb hnbb ⊢
        clear hbv1 hq1
        rw [ebb] at hdbbmb
        refine wpAnyH_ready (rs := [6]) (by kernel_rfl) (by simp) ?_
        refine AllReadyH.cons rfl (fun K hK => ?_) (AllReadyH.nil)
        go_simp
        go_wp2_with fail
        refine hK.out _ _ (HS.out _ (hT2.alloc hT2.size _)) (fun hHeld => ?_)
        clear hK K
        try simp only [Act.put, sA, sB, sC]
        have HNab := Lib.hid (BlkF.made (B := u.heap.size) v2 [.int .i64 0] 3 hT2.size)
        have hbv2 : Below v2.heap.size v2 (v2.alloc (.cells #[.int .i64 0] 3)) := (Below.refl _ _).alloc (Nat.le_refl _) _
        have hdabmb : mb < v2.heap.size := HNmb.out.lt
        have hdabbb : bb < v2.heap.size := HNbb.out.lt
        replace HNmb := Lib.hid (HNmb.out.below hbv2)
        replace HNbb := Lib.hid (HNbb.out.below hbv2)
        have hnab : u.heap.size ≤ v2.heap.size := hT2.size
        have exab : ∃ x, v2.heap.size = x := ⟨_, rfl⟩
        generalize hq2 : v2.alloc (.cells #[.int .i64 0] 3) = v3 at *
        have hT3 : Below u.heap.size u v3 := hT2.trans (hbv2.mono hT2.size)
        obtain ⟨ab, eab⟩ := exab
        rw [eab] at HNab hnab ⊢
        clear hbv2 hq2
        rw [eab] at hdabmb
        rw [eab] at hdabbb
        refine wpAnyH_ready (rs := [8]) (by kernel_rfl) (by simp) ?_
        refine AllReadyH.cons rfl (fun K hK => ?_) (AllReadyH.nil)
        have HBs : Hid (BlkF (v3.setCell ⟨ab, 0, none⟩ (.int .i64 t)) u.heap.size ab [.int .i64 t]) := Lib.hid (BlkF.st (vs' := [.int .i64 t]) HNab.out rfl)
        have hTs : Below u.heap.size u (v3.setCell ⟨ab, 0, none⟩ (.int .i64 t)) := stW_below HNab.out.ge [.int .i64 t] v3 0 hT3
        have u_0 := b1 HNab.out
        have u_f := HNab.out.fz
        go_simp
        go_wp2_with fail
        refine hK.out _ _ (HS.out _ hTs) (fun hHeld => ?_)
        clear hK K
        try simp only [Act.put, sA, sB, sC]
        clear u_f u_0
        have H2HNmb : Hid (BlkF (v3.setCell ⟨ab, 0, none⟩ (.int .i64 t)) u.heap.size mb _) := Lib.hid (HNmb.out.other (c := ab) (i := 0) (l := [.int .i64 t]) (by have := HNmb.out.lt; omega))
        have H2HNbb : Hid (BlkF (v3.setCell ⟨ab, 0, none⟩ (.int .i64 t)) u.heap.size bb _) := Lib.hid (HNbb.out.other (c := ab) (i := 0) (l := [.int .i64 t]) (by have := HNbb.out.lt; omega))
        clear HNab
        generalize hs3 : (v3.setCell ⟨ab, 0, none⟩ (.int .i64 t)) = v4 at *
        clear hs3
        have hT4 := hTs
        clear hTs
        have HNab := HBs
        clear HBs
        replace HNmb := H2HNmb
        replace HNbb := H2HNbb
        refine wpAnyH_ready (rs := [9]) (by kernel_rfl) (by simp) ?_
        refine AllReadyH.cons rfl (fun K hK => ?_) (AllReadyH.nil)
        have HBs : Hid (BlkF (v4.setCell ⟨bb, 0, none⟩ (.slice (some ⟨mb, 0, none⟩) gn gn)) u.heap.size bb [.slice (some ⟨mb, 0, none⟩) gn gn]) := Lib.hid (BlkF.st (vs' := [.slice (some ⟨mb, 0, none⟩) gn gn]) HNbb.out rfl)
        have hTs : Below u.heap.size u (v4.setCell ⟨bb, 0, none⟩ (.slice (some ⟨mb, 0, none⟩) gn gn)) := stW_below HNbb.out.ge [.slice (some ⟨mb, 0, none⟩) gn gn] v4 0 hT4
        have u_0 := b1 HNbb.out
        have u_f := HNbb.out.fz
        go_simp
        go_wp2_with fail
        refine hK.out _ _ (HS.out _ hTs) (fun hHeld => ?_)
        clear hK K
        try simp only [Act.put, sA, sB, sC]
        clear u_f u_0
        have H2HNmb : Hid (BlkF (v4.setCell ⟨bb, 0, none⟩ (.slice (some ⟨mb, 0, none⟩) gn gn)) u.heap.size mb _) := Lib.hid (HNmb.out.other (c := bb) (i := 0) (l := [.slice (some ⟨mb, 0, none⟩) gn gn]) (by have := HNmb.out.lt; omega))
        have H2HNab : Hid (BlkF (v4.setCell ⟨bb, 0, none⟩ (.slice (some ⟨mb, 0, none⟩) gn gn)) u.heap.size ab _) := Lib.hid (HNab.out.other (c := bb) (i := 0) (l := [.slice (some ⟨mb, 0, none⟩) gn gn]) (by have := HNab.out.lt; omega))
        clear HNbb
        generalize hs4 : (v4.setCell ⟨bb, 0, none⟩ (.slice (some ⟨mb, 0, none⟩) gn gn)) = v5 at *
        clear hs4
        have hT5 := hTs
        clear hTs
        have HNbb := HBs
        clear HBs
        replace HNmb := H2HNmb
        replace HNab := H2HNab
        refine wpAnyH_done (by kernel_rfl) ?_ _
        clear HS hHeld
        have ge1 := HNab.out.ge
        have ge2 := HNbb.out.ge
        have ge3 := HNmb.out.ge
        go_wp2_with fail
        gi_meet
        exact ⟨ab, bb, mb, rfl, rfl, by omega, by omega, by omega, by omega, by omega, by omega, by rw [← hz]; exact HNab.out, by rw [← hz]; exact HNbb.out, by rw [← hz]; exact HNmb.out, by rw [← hz, HU.out]; exact hT5⟩
    · skip
      go_simp
      go_wp2_with fail
      refine hK.out _ _ (HS.out _ (hT0.alloc hT0.size _)) (fun hHeld => ?_)
      clear hK K
      try simp only [Act.put, sA, sB, sC]
      have HNab := Lib.hid (BlkF.made (B := u.heap.size) v0 [.int .i64 0] 3 hT0.size)
      have hbv0 : Below v0.heap.size v0 (v0.alloc (.cells #[.int .i64 0] 3)) := (Below.refl _ _).alloc (Nat.le_refl _) _
      have hnab : u.heap.size ≤ v0.heap.size := hT0.size
      have exab : ∃ x, v0.heap.size = x := ⟨_, rfl⟩
      generalize hq0 : v0.alloc (.cells #[.int .i64 0] 3) = v1 at *
      have hT1 : Below u.heap.size u v1 := hT0.trans (hbv0.mono hT0.size)
      obtain ⟨ab, eab⟩ := exab
      rw [eab] at HNab hnab ⊢
      clear hbv0 hq0
      refine wpAnyH_ready (rs := [5, 7]) (by kernel_rfl) (by simp) ?_
      refine AllReadyH.cons rfl (fun K hK => ?_) (AllReadyH.cons rfl (fun K hK => ?_) (AllReadyH.nil))
      · skip
        have hmk := fun (w : World) => mkIn8 g1 g8 w
        go_simp
        go_wp2_with fail
        refine hK.out _ _ (HS.out _ (hT1.alloc hT1.size _)) (fun hHeld => ?_)
        clear hK K
        try simp only [Act.put, sA, sB, sC]
        clear hmk
        have HNmb := Lib.hid (BlkF.made (B := u.heap.size) v1 (List.replicate gn (.int .i64 0)) 3 hT1.size)
        have hbv1 : Below v1.heap.size v1 (v1.alloc (.cells (Array.replicate gn (.int .i64 0)) 3)) := (Below.refl _ _).alloc (Nat.le_refl _) _
        have hdmbab : ab < v1.heap.size := HNab.out.lt
        replace HNab := Lib.hid (HNab.out.below hbv1)
        have hnmb : u.heap.size ≤ v1.heap.size := hT1.size
        have exmb : ∃ x, v1.heap.size = x := ⟨_, rfl⟩
        replace HNmb : Hid (BlkF (v1.alloc (.cells (Array.replicate gn (.int .i64 0)) 3)) u.heap.size v1.heap.size (List.replicate gn (.int .i64 0))) := HNmb
        generalize hq1 : v1.alloc (.cells (Array.replicate gn (.int .i64 0)) 3) = v2 at *
        have hT2 : Below u.heap.size u v2 := hT1.trans (hbv1.mono hT1.size)
        obtain ⟨mb, emb⟩ := exmb
        rw [emb] at HNmb hnmb ⊢
        clear hbv1 hq1
        rw [emb] at hdmbab
        refine wpAnyH_ready (rs := [7]) (by kernel_rfl) (by simp) ?_
        refine AllReadyH.cons rfl (fun K hK => ?_) (AllReadyH.nil)
        go_simp
        go_wp2_with fail
        refine hK.out _ _ (HS.out _ (hT2.alloc hT2.size _)) (fun hHeld => ?_)
        clear hK K
        try simp only [Act.put, sA, sB, sC]
        have HNbb := Lib.hid (BlkF.made (B := u.heap.size) v2 [.slice none 0 0] 49 hT2.size)
        have hbv2 : Below v2.heap.size v2 (v2.alloc (.cells #[.slice none 0 0] 49)) := (Below.refl _ _).alloc (Nat.le_refl _) _
        have hdbbab : ab < v2.heap.size := HNab.out.lt
        have hdbbmb : mb < v2.heap.size := HNmb.out.lt
        replace HNab := Lib.hid (HNab.out.below hbv2)
        replace HNmb := Lib.hid (HNmb.out.below hbv2)
        have hnbb : u.heap.size ≤ v2.heap.size := hT2.size
        have exbb : ∃ x, v2.heap.size = x := ⟨_, rfl⟩
        generalize hq2 : v2.alloc (.cells #[.slice none 0 0] 49) = v3 at *
        have hT3 : Below u.heap.size u v3 := hT2.trans (hbv2.mono hT2.size)
        obtain ⟨bb, ebb⟩ := exbb
        rw [ebb] at HNbb hnbb ⊢
        clear hbv2 hq2
        rw [ebb] at hdbbab
        rw [ebb] at hdbbmb
        refine wpAnyH_ready (rs := [8]) (by kernel_rfl) (by simp) ?_
        refine AllReadyH.cons rfl (fun K hK => ?_) (AllReadyH.nil)
        have HBs : Hid (BlkF (v3.setCell ⟨ab, 0, none⟩ (.int .i64 t)) u.heap.size ab [.int .i64 t]) := Lib.hid (BlkF.st (vs' := [.int .i64 t]) HNab.out rfl)
        have hTs : Below u.heap.size u (v3.setCell ⟨ab, 0, none⟩ (.int .i64 t)) := stW_below HNab.out.ge [.int .i64 t] v3 0 hT3
        have u_0 := b1 HNab.out
        have u_f := HNab.out.fz
        go_simp
        go_wp2_with fail
        refine hK.out _ _ (HS.out _ hTs) (fun hHeld => ?_)
        clear hK K
        try simp only [Act.put, sA, sB, sC]
        clear u_f u_0
        have H2HNmb : Hid (BlkF (v3.setCell ⟨ab, 0, none⟩ (.int .i64 t)) u.heap.size mb _) := Lib.hid (HNmb.out.other (c := ab) (i := 0) (l := [.int .i64 t]) (by have := HNmb.out.lt; omega))
        have H2HNbb : Hid (BlkF (v3.setCell ⟨ab, 0, none⟩ (.int .i64 t)) u.heap.size bb _) := Lib.hid (HNbb.out.other (c := ab) (i := 0) (l := [.int .i64 t]) (by have := HNbb.out.lt; omega))
        clear HNab
        generalize hs3 : (v3.setCell ⟨ab, 0, none⟩ (.int .i64 t)) = v4 at *
        clear hs3
        have hT4 := hTs
        clear hTs
        have HNab := HBs
        clear HBs
        replace HNmb := H2HNmb
        replace HNbb := H2HNbb
        refine wpAnyH_ready (rs := [9]) (by kernel_rfl) (by simp) ?_
        refine AllReadyH.cons rfl (fun K hK => ?_) (AllReadyH.nil)
        have HBs : Hid (BlkF (v4.setCell ⟨bb, 0, none⟩ (.slice (some ⟨mb, 0, none⟩) gn gn)) u.heap.size bb [.slice (some ⟨mb, 0, none⟩) gn gn]) := Lib.hid (BlkF.st (vs' := [.slice (some ⟨mb, 0, none⟩) gn gn]) HNbb.out rfl)
        have hTs : Below u.heap.size u (v4.setCell ⟨bb, 0, none⟩ (.slice (some ⟨mb, 0, none⟩) gn gn)) := stW_below HNbb.out.ge [.slice (some ⟨mb, 0, none⟩) gn gn] v4 0 hT4
        have u_0 := b1 HNbb.out
        have u_f := HNbb.out.fz
        go_simp
        go_wp2_with fail
        refine hK.out _ _ (HS.out _ hTs) (fun hHeld => ?_)
        clear hK K
        try simp only [Act.put, sA, sB, sC]
        clear u_f u_0
        have H2HNab : Hid (BlkF (v4.setCell ⟨bb, 0, none⟩ (.slice (some ⟨mb, 0, none⟩) gn gn)) u.heap.size ab _) := Lib.hid (HNab.out.other (c := bb) (i := 0) (l := [.slice (some ⟨mb, 0, none⟩) gn gn]) (by have := HNab.out.lt; omega))
        have H2HNmb : Hid (BlkF (v4.setCell ⟨bb, 0, none⟩ (.slice (some ⟨mb, 0, none⟩) gn gn)) u.heap.size mb _) := Lib.hid (HNmb.out.other (c := bb) (i := 0) (l := [.slice (some ⟨mb, 0, none⟩) gn gn]) (by have := HNmb.out.lt; omega))
        clear HNbb
        generalize hs4 : (v4.setCell ⟨bb, 0, none⟩ (.slice (some ⟨mb, 0, none⟩) gn gn)) = v5 at *
        clear hs4
        have hT5 := hTs
        clear hTs
        have HNbb := HBs
        clear HBs
        replace HNab := H2HNab
        replace HNmb := H2HNmb
        refine wpAnyH_done (by kernel_rfl) ?_ _
        clear HS hHeld
        have ge1 := HNab.out.ge
        have ge2 := HNbb.out.ge
        have ge3 := HNmb.out.ge
        go_wp2_with fail
        gi_meet
        exact ⟨ab, bb, mb, rfl, rfl, by omega, by omega, by omega, by omega, by omega, by omega, by rw [← hz]; exact HNab.out, by rw [← hz]; exact HNbb.out, by rw [← hz]; exact HNmb.out, by rw [← hz, HU.out]; exact hT5⟩
      · skip
        go_simp
        go_wp2_with fail
        refine hK.out _ _ (HS.out _ (hT1.alloc hT1.size _)) (fun hHeld => ?_)
        clear hK K
        try simp only [Act.put, sA, sB, sC]
        have HNbb := Lib.hid (BlkF.made (B := u.heap.size) v1 [.slice none 0 0] 49 hT1.size)
        have hbv1 : Below v1.heap.size v1 (v1.alloc (.cells #[.slice none 0 0] 49)) := (Below.refl _ _).alloc (Nat.le_refl _) _
        have hdbbab : ab < v1.heap.size := HNab.out.lt
        replace HNab := Lib.hid (HNab.out.below hbv1)
        have hnbb : u.heap.size ≤ v1.heap.size := hT1.size
        have exbb : ∃ x, v1.heap.size = x := ⟨_, rfl⟩
        generalize hq1 : v1.alloc (.cells #[.slice none 0 0] 49) = v2 at *
        have hT2 : Below u.heap.size u v2 := hT1.trans (hbv1.mono hT1.size)
        obtain ⟨bb, ebb⟩ := exbb
        rw [ebb] at HNbb hnbb ⊢
        clear hbv1 hq1
        rw [ebb] at hdbbab
        refine wpAnyH_ready (rs := [5, 8]) (by kernel_rfl) (by simp) ?_
        refine AllReadyH.cons rfl (fun K hK => ?_) (AllReadyH.cons rfl (fun K hK => ?_) (AllReadyH.nil))
        · skip
          have hmk := fun (w : World) => mkIn8 g1 g8 w
          go_simp
          go_wp2_with fail
          refine hK.out _ _ (HS.out _ (hT2.alloc hT2.size _)) (fun hHeld => ?_)
          clear hK K
          try simp only [Act.put, sA, sB, sC]
          clear hmk
          have HNmb := Lib.hid (BlkF.made (B := u.heap.size) v2 (List.replicate gn (.int .i64 0)) 3 hT2.size)
          have hbv2 : Below v2.heap.size v2 (v2.alloc (.cells (Array.replicate gn (.int .i64 0)) 3)) := (Below.refl _ _).alloc (Nat.le_refl _) _
          have hdmbab : ab < v2.heap.size := HNab.out.lt
          have hdmbbb : bb < v2.heap.size := HNbb.out.lt
          replace HNab := Lib.hid (HNab.out.below hbv2)
          replace HNbb := Lib.hid (HNbb.out.below hbv2)
          have hnmb : u.heap.size ≤ v2.heap.size := hT2.size
          have exmb : ∃ x, v2.heap.size = x := ⟨_, rfl⟩
          replace HNmb : Hid (BlkF (v2.alloc (.cells (Array.replicate gn (.int .i64 0)) 3)) u.heap.size v2.heap.size (List.replicate gn (.int .i64 0))) := HNmb
          generalize hq2 : v2.alloc (.cells (Array.replicate gn (.int .i64 0)) 3) = v3 at *
          have hT3 : Below u.heap.size u v3 := hT2.trans (hbv2.mono hT2.size)
          obtain ⟨mb, emb⟩ := exmb
          rw [emb] at HNmb hnmb ⊢
          clear hbv2 hq2
          rw [emb] at hdmbab
          rw [emb] at hdmbbb
          refine wpAnyH_ready (rs := [8]) (by kernel_rfl) (by simp) ?_
          refine AllReadyH.cons rfl (fun K hK => ?_) (AllReadyH.nil)
          have HBs : Hid (BlkF (v3.setCell ⟨ab, 0, none⟩ (.int .i64 t)) u.heap.size ab [.int .i64 t]) := Lib.hid (BlkF.st (vs' := [.int .i64 t]) HNab.out rfl)
          have hTs : Below u.heap.size u (v3.setCell ⟨ab, 0, none⟩ (.int .i64 t)) := stW_below HNab.out.ge [.int .i64 t] v3 0 hT3
          have u_0 := b1 HNab.out
          have u_f := HNab.out.fz
          go_simp
          go_wp2_with fail
          refine hK.out _ _ (HS.out _ hTs) (fun hHeld => ?_)
          clear hK K
          try simp only [Act.put, sA, sB, sC]
          clear u_f u_0
          have H2HNbb : Hid (BlkF (v3.setCell ⟨ab, 0, none⟩ (.int .i64 t)) u.heap.size bb _) := Lib.hid (HNbb.out.other (c := ab) (i := 0) (l := [.int .i64 t]) (by have := HNbb.out.lt; omega))
          have H2HNmb : Hid (BlkF (v3.setCell ⟨ab, 0, none⟩ (.int .i64 t)) u.heap.size mb _) := Lib.hid (HNmb.out.other (c := ab) (i := 0) (l := [.int .i64 t]) (by have := HNmb.out.lt; omega))
          clear HNab
          generalize hs3 : (v3.setCell ⟨ab, 0, none⟩ (.int .i64 t)) = v4 at *
          clear hs3
          have hT4 := hTs
          clear hTs
          have HNab := HBs
          clear HBs
          replace HNbb := H2HNbb
          replace HNmb := H2HNmb
          refine wpAnyH_ready (rs := [9]) (by kernel_rfl) (by simp) ?_
          refine AllReadyH.cons rfl (fun K hK => ?_) (AllReadyH.nil)
          have HBs : Hid (BlkF (v4.setCell ⟨bb, 0, none⟩ (.slice (some ⟨mb, 0, none⟩) gn gn)) u.heap.size bb [.slice (some ⟨mb, 0, none⟩) gn gn]) := Lib.hid (BlkF.st (vs' := [.slice (some ⟨mb, 0, none⟩) gn gn]) HNbb.out rfl)
          have hTs : Below u.heap.size u (v4.setCell ⟨bb, 0, none⟩ (.slice (some ⟨mb, 0, none⟩) gn gn)) := stW_below HNbb.out.ge [.slice (some ⟨mb, 0, none⟩) gn gn] v4 0 hT4
          have u_0 := b1 HNbb.out
          have u_f := HNbb.out.fz
          go_simp
          go_wp2_with fail
          refine hK.out _ _ (HS.out _ hTs) (fun hHeld => ?_)
          clear hK K
          try simp only [Act.put, sA, sB, sC]
          clear u_f u_0
          have H2HNab : Hid (BlkF (v4.setCell ⟨bb, 0, none⟩ (.slice (some ⟨mb, 0, none⟩) gn gn)) u.heap.size ab _) := Lib.hid (HNab.out.other (c := bb) (i := 0) (l := [.slice (some ⟨mb, 0, none⟩) gn gn]) (by have := HNab.out.lt; omega))
          have H2HNmb : Hid (BlkF (v4.setCell ⟨bb, 0, none⟩ (.slice (some ⟨mb, 0, none⟩) gn gn)) u.heap.size mb _) := Lib.hid (HNmb.out.other (c := bb) (i := 0) (l := [.slice (some ⟨mb, 0, none⟩) gn gn]) (by have := HNmb.out.lt; omega))
          clear HNbb
          generalize hs4 : (v4.setCell ⟨bb, 0, none⟩ (.slice (some ⟨mb, 0, none⟩) gn gn)) = v5 at *
          clear hs4
          have hT5 := hTs
          clear hTs
          have HNbb := HBs
          clear HBs
          replace HNab := H2HNab
          replace HNmb := H2HNmb
          refine wpAnyH_done (by kernel_rfl) ?_ _
          clear HS hHeld
          have ge1 := HNab.out.ge
          have ge2 := HNbb.out.ge
          have ge3 := HNmb.out.ge
          go_wp2_with fail
          gi_meet
          exact ⟨ab, bb, mb, rfl, rfl, by omega, by omega, by omega, by omega, by omega, by omega, by rw [← hz]; exact HNab.out, by rw [← hz]; exact HNbb.out, by rw [← hz]; exact HNmb.out, by rw [← hz, HU.out]; exact hT5⟩
        · skip
          have HBs : Hid (BlkF (v2.setCell ⟨ab, 0, none⟩ (.int .i64 t)) u.heap.size ab [.int .i64 t]) := Lib.hid (BlkF.st (vs' := [.int .i64 t]) HNab.out rfl)
          have hTs : Below u.heap.size u (v2.setCell ⟨ab, 0, none⟩ (.int .i64 t)) := stW_below HNab.out.ge [.int .i64 t] v2 0 hT2
          have u_0 := b1 HNab.out
          have u_f := HNab.out.fz
          go_simp
          go_wp2_with fail
          refine hK.out _ _ (HS.out _ hTs) (fun hHeld => ?_)
          clear hK K
          try simp only [Act.put, sA, sB, sC]
          clear u_f u_0
          have H2HNbb : Hid (BlkF (v2.setCell ⟨ab, 0, none⟩ (.int .i64 t)) u.heap.size bb _) := Lib.hid (HNbb.out.other (c := ab) (i := 0) (l := [.int .i64 t]) (by have := HNbb.out.lt; omega))
          clear HNab
          generalize hs2 : (v2.setCell ⟨ab, 0, none⟩ (.int .i64 t)) = v3 at *
          clear hs2
          have hT3 := hTs
          clear hTs
          have HNab := HBs
          clear HBs
          replace HNbb := H2HNbb
          refine wpAnyH_ready (rs := [5]) (by kernel_rfl) (by simp) ?_
          refine AllReadyH.cons rfl (fun K hK => ?_) (AllReadyH.nil)
          have hmk := fun (w : World) => mkIn8 g1 g8 w
          go_simp
          go_wp2_with fail
          refine hK.out _ _ (HS.out _ (hT3.alloc hT3.size _)) (fun hHeld => ?_)
          clear hK K
          try simp only [Act.put, sA, sB, sC]
          clear hmk
          have HNmb := Lib.hid (BlkF.made (B := u.heap.size) v3 (List.replicate gn (.int .i64 0)) 3 hT3.size)
          have hbv3 : Below v3.heap.size v3 (v3.alloc (.cells (Array.replicate gn (.int .i64 0)) 3)) := (Below.refl _ _).alloc (Nat.le_refl _) _
          have hdmbab : ab < v3.heap.size := HNab.out.lt
          have hdmbbb : bb < v3.heap.size := HNbb.out.lt
          replace HNab := Lib.hid (HNab.out.below hbv3)
          replace HNbb := Lib.hid (HNbb.out.below hbv3)
          have hnmb : u.heap.size ≤ v3.heap.size := hT3.size
          have exmb : ∃ x, v3.heap.size = x := ⟨_, rfl⟩
          replace HNmb : Hid (BlkF (v3.alloc (.cells (Array.replicate gn (.int .i64 0)) 3)) u.heap.size v3.heap.size (List.replicate gn (.int .i64 0))) := HNmb
          generalize hq3 : v3.alloc (.cells (Array.replicate gn (.int .i64 0)) 3) = v4 at *
          have hT4 : Below u.heap.size u v4 := hT3.trans (hbv3.mono hT3.size)
          obtain ⟨mb, emb⟩ := exmb
          rw [emb] at HNmb hnmb ⊢
          clear hbv3 hq3
          rw [emb] at hdmbab
          rw [emb] at hdmbbb
          refine wpAnyH_ready (rs := [9]) (by kernel_rfl) (by simp) ?_
          refine AllReadyH.cons rfl (fun K hK => ?_) (AllReadyH.nil)
          have HBs : Hid (BlkF (v4.setCell ⟨bb, 0, none⟩ (.slice (some ⟨mb, 0, none⟩) gn gn)) u.heap.size bb [.slice (some ⟨mb, 0, none⟩) gn gn]) := Lib.hid (BlkF.st (vs' := [.slice (some ⟨mb, 0, none⟩) gn gn]) HNbb.out rfl)
          have hTs : Below u.heap.size u (v4.setCell ⟨bb, 0, none⟩ (.slice (some ⟨mb, 0, none⟩) gn gn)) := stW_below HNbb.out.ge [.slice (some ⟨mb, 0, none⟩) gn gn] v4 0 hT4
          have u_0 := b1 HNbb.out
          have u_f := HNbb.out.fz
          go_simp
          go_wp2_with fail
          refine hK.out _ _ (HS.out _ hTs) (fun hHeld => ?_)
          clear hK K
          try simp only [Act.put, sA, sB, sC]
          clear u_f u_0
          have H2HNab : Hid (BlkF (v4.setCell ⟨bb, 0, none⟩ (.slice (some ⟨mb, 0, none⟩) gn gn)) u.heap.size ab _) := Lib.hid (HNab.out.other (c := bb) (i := 0) (l := [.slice (some ⟨mb, 0, none⟩) gn gn]) (by have := HNab.out.lt; omega))
          have H2HNmb : Hid (BlkF (v4.setCell ⟨bb, 0, none⟩ (.slice (some ⟨mb, 0, none⟩) gn gn)) u.heap.size mb _) := Lib.hid (HNmb.out.other (c := bb) (i := 0) (l := [.slice (some ⟨mb, 0, none⟩) gn gn]) (by have := HNmb.out.lt; omega))
          clear HNbb
          generalize hs4 : (v4.setCell ⟨bb, 0, none⟩ (.slice (some ⟨mb, 0, none⟩) gn gn)) = v5 at *
          clear hs4
          have hT5 := hTs
          clear hTs
          have HNbb := HBs
          clear HBs
          replace HNab := H2HNab
          replace HNmb := H2HNmb
          refine wpAnyH_done (by kernel_rfl) ?_ _
          clear HS hHeld
          have ge1 := HNab.out.ge
          have ge2 := HNbb.out.ge
          have ge3 := HNmb.out.ge
          go_wp2_with fail
          gi_meet
          exact ⟨ab, bb, mb, rfl, rfl, by omega, by omega, by omega, by omega, by omega, by omega, by rw [← hz]; exact HNab.out, by rw [← hz]; exact HNbb.out, by rw [← hz]; exact HNmb.out, by rw [← hz, HU.out]; exact hT5⟩
    · skip
      go_simp
      go_wp2_with fail
      refine hK.out _ _ (HS.out _ (hT0.alloc hT0.size _)) (fun hHeld => ?_)
      clear hK K
      try simp only [Act.put, sA, sB, sC]
      have HNbb := Lib.hid (BlkF.made (B := u.heap.size) v0 [.slice none 0 0] 49 hT0.size)
      have hbv0 : Below v0.heap.size v0 (v0.alloc (.cells #[.slice none 0 0] 49)) := (Below.refl _ _).alloc (Nat.le_refl _) _
      have hnbb : u.heap.size ≤ v0.heap.size := hT0.size
      have exbb : ∃ x, v0.heap.size = x := ⟨_, rfl⟩
      generalize hq0 : v0.alloc (.cells #[.slice none 0 0] 49) = v1 at *
      have hT1 : Below u.heap.size u v1 := hT0.trans (hbv0.mono hT0.size)
      obtain ⟨bb, ebb⟩ := exbb
      rw [ebb] at HNbb hnbb ⊢
      clear hbv0 hq0
      refine wpAnyH_ready (rs := [5, 6]) (by kernel_rfl) (by simp) ?_
      refine AllReadyH.cons rfl (fun K hK => ?_) (AllReadyH.cons rfl (fun K hK => ?_) (AllReadyH.nil))
      · skip
        have hmk := fun (w : World) => mkIn8 g1 g8 w
        go_simp
        go_wp2_with fail
        refine hK.out _ _ (HS.out _ (hT1.alloc hT1.size _)) (fun hHeld => ?_)
        clear hK K
        try simp only [Act.put, sA, sB, sC]
        clear hmk
        have HNmb := Lib.hid (BlkF.made (B := u.heap.size) v1 (List.replicate gn (.int .i64 0)) 3 hT1.size)
        have hbv1 : Below v1.heap.size v1 (v1.alloc (.cells (Array.replicate gn (.int .i64 0)) 3)) := (Below.refl _ _).alloc (Nat.le_refl _) _
        have hdmbbb : bb < v1.heap.size := HNbb.out.lt
        replace HNbb := Lib.hid (HNbb.out.below hbv1)
        have hnmb : u.heap.size ≤ v1.heap.size := hT1.size
        have exmb : ∃ x, v1.heap.size = x := ⟨_, rfl⟩
        replace HNmb : Hid (BlkF (v1.alloc (.cells (Array.replicate gn (.int .i64 0)) 3)) u.heap.size v1.heap.size (List.replicate gn (.int .i64 0))) := HNmb
        generalize hq1 : v1.alloc (.cells (Array.replicate gn (.int .i64 0)) 3) = v2 at *
        have hT2 : Below u.heap.size u v2 := hT1.trans (hbv1.mono hT1.size)
        obtain ⟨mb, emb⟩ := exmb
        rw [emb] at HNmb hnmb ⊢
        clear hbv1 hq1
        rw [emb] at hdmbbb
        refine wpAnyH_ready (rs := [6]) (by kernel_rfl) (by simp) ?_
        refine AllReadyH.cons rfl (fun K hK => ?_) (AllReadyH.nil)
        go_simp
        go_wp2_with fail
        refine hK.out _ _ (HS.out _ (hT2.alloc hT2.size _)) (fun hHeld => ?_)
        clear hK K
        try simp only [Act.put, sA, sB, sC]
        have HNab := Lib.hid (BlkF.made (B := u.heap.size) v2 [.int .i64 0] 3 hT2.size)
        have hbv2 : Below v2.heap.size v2 (v2.alloc (.cells #[.int .i64 0] 3)) := (Below.refl _ _).alloc (Nat.le_refl _) _
        have hdabbb : bb < v2.heap.size := HNbb.out.lt
        have hdabmb : mb < v2.heap.size := HNmb.out.lt
        replace HNbb := Lib.hid (HNbb.out.below hbv2)
        replace HNmb := Lib.hid (HNmb.out.below hbv2)
        have hnab : u.heap.size ≤ v2.heap.size := hT2.size
        have exab : ∃ x, v2.heap.size = x := ⟨_, rfl⟩
        generalize hq2 : v2.alloc (.cells #[.int .i64 0] 3) = v3 at *
        have hT3 : Below u.heap.size u v3 := hT2.trans (hbv2.mono hT2.size)
        obtain ⟨ab, eab⟩ := exab
        rw [eab] at HNab hnab ⊢
        clear hbv2 hq2
        rw [eab] at hdabbb
        rw [eab] at hdabmb
        refine wpAnyH_ready (rs := [8]) (by kernel_rfl) (by simp) ?_
        refine AllReadyH.cons rfl (fun K hK => ?_) (AllReadyH.nil)
        have HBs : Hid (BlkF (v3.setCell ⟨ab, 0, none⟩ (.int .i64 t)) u.heap.size ab [.int .i64 t]) := Lib.hid (BlkF.st (vs' := [.int .i64 t]) HNab.out rfl)
        have hTs : Below u.heap.size u (v3.setCell ⟨ab, 0, none⟩ (.int .i64 t)) := stW_below HNab.out.ge [.int .i64 t] v3 0 hT3
        have u_0 := b1 HNab.out
        have u_f := HNab.out.fz
        go_simp
        go_wp2_with fail
        refine hK.out _ _ (HS.out _ hTs) (fun hHeld => ?_)
        clear hK K
        try simp only [Act.put, sA, sB, sC]
        clear u_f u_0
        have H2HNbb : Hid (BlkF (v3.setCell ⟨ab, 0, none⟩ (.int .i64 t)) u.heap.size bb _) := Lib.hid (HNbb.out.other (c := ab) (i := 0) (l := [.int .i64 t]) (by have := HNbb.out.lt; omega))
        have H2HNmb : Hid (BlkF (v3.setCell ⟨ab, 0, none⟩ (.int .i64 t)) u.heap.size mb _) := Lib.hid (HNmb.out.other (c := ab) (i := 0) (l := [.int .i64 t]) (by have := HNmb.out.lt; omega))
        clear HNab
        generalize hs3 : (v3.setCell ⟨ab, 0, none⟩ (.int .i64 t)) = v4 at *
        clear hs3
        have hT4 := hTs
        clear hTs
        have HNab := HBs
        clear HBs
        replace HNbb := H2HNbb
        replace HNmb := H2HNmb
        refine wpAnyH_ready (rs := [9]) (by kernel_rfl) (by simp) ?_
        refine AllReadyH.cons rfl (fun K hK => ?_) (AllReadyH.nil)
        have HBs : Hid (BlkF (v4.setCell ⟨bb, 0, none⟩ (.slice (some ⟨mb, 0, none⟩) gn gn)) u.heap.size bb [.slice (some ⟨mb, 0, none⟩) gn gn]) := Lib.hid (BlkF.st (vs' := [.slice (some ⟨mb, 0, none⟩) gn gn]) HNbb.out rfl)
        have hTs : Below u.heap.size u (v4.setCell ⟨bb, 0, none⟩ (.slice (some ⟨mb, 0, none⟩) gn gn)) := stW_below HNbb.out.ge [.slice (some ⟨mb, 0, none⟩) gn gn] v4 0 hT4
        have u_0 := b1 HNbb.out
        have u_f := HNbb.out.fz
        go_simp
        go_wp2_with fail
        refine hK.out _ _ (HS.out _ hTs) (fun hHeld => ?_)
        clear hK K
        try simp only [Act.put, sA, sB, sC]
        clear u_f u_0
        have H2HNmb : Hid (BlkF (v4.setCell ⟨bb, 0, none⟩ (.slice (some ⟨mb, 0, none⟩) gn gn)) u.heap.size mb _) := Lib.hid (HNmb.out.other (c := bb) (i := 0) (l := [.slice (some ⟨mb, 0, none⟩) gn gn]) (by have := HNmb.out.lt; omega))
        have H2HNab : Hid (BlkF (v4.setCell ⟨bb, 0, none⟩ (.slice (some ⟨mb, 0, none⟩) gn gn)) u.heap.size ab _) := Lib.hid (HNab.out.other (c := bb) (i := 0) (l := [.slice (some ⟨mb, 0, none⟩) gn gn]) (by have := HNab.out.lt; omega))
        clear HNbb
        generalize hs4 : (v4.setCell ⟨bb, 0, none⟩ (.slice (some ⟨mb, 0, none⟩) gn gn)) = v5 at *
        clear hs4
        have hT5 := hTs
        clear hTs
        have HNbb := HBs
        clear HBs
        replace HNmb := H2HNmb
        replace HNab := H2HNab
        refine wpAnyH_done (by kernel_rfl) ?_ _
        clear HS hHeld
        have ge1 := HNab.out.ge
        have ge2 := HNbb.out.ge
        have ge3 := HNmb.out.ge
        go_wp2_with fail
        gi_meet
        exact ⟨ab, bb, mb, rfl, rfl, by omega, by omega, by omega, by omega, by omega, by omega, by rw [← hz]; exact HNab.out, by rw [← hz]; exact HNbb.out, by rw [← hz]; exact HNmb.out, by rw [← hz, HU.out]; exact hT5⟩
      · skip
        go_simp
        go_wp2_with fail
        refine hK.out _ _ (HS.out _ (hT1.alloc hT1.size _)) (fun hHeld => ?_)
        clear hK K
        try simp only [Act.put, sA, sB, sC]
        have HNab := Lib.hid (BlkF.made (B := u.heap.size) v1 [.int .i64 0] 3 hT1.size)
        have hbv1 : Below v1.heap.size v1 (v1.alloc (.cells #[.int .i64 0] 3)) := (Below.refl _ _).alloc (Nat.le_refl _) _
        have hdabbb : bb < v1.heap.size := HNbb.out.lt
        replace HNbb := Lib.hid (HNbb.out.below hbv1)
        have hnab : u.heap.size ≤ v1.heap.size := hT1.size
        have exab : ∃ x, v1.heap.size = x := ⟨_, rfl⟩
        generalize hq1 : v1.alloc (.cells #[.int .i64 0] 3) = v2 at *
        have hT2 : Below u.heap.size u v2 := hT1.trans (hbv1.mono hT1.size)
        obtain ⟨ab, eab⟩ := exab
        rw [eab] at HNab hnab ⊢
        clear hbv1 hq1
        rw [eab] at hdabbb
        refine wpAnyH_ready (rs := [5, 8]) (by kernel_rfl) (by simp) ?_
        refine AllReadyH.cons rfl (fun K hK => ?_) (AllReadyH.cons rfl (fun K hK => ?_) (AllReadyH.nil))
        · skip
          have hmk := fun (w : World) => mkIn8 g1 g8 w
          go_simp
          go_wp2_with fail
          refine hK.out _ _ (HS.out _ (hT2.alloc hT2.size _)) (fun hHeld => ?_)
          clear hK K
          try simp only [Act.put, sA, sB, sC]
          clear hmk
          have HNmb := Lib.hid (BlkF.made (B := u.heap.size) v2 (List.replicate gn (.int .i64 0)) 3 hT2.size)
          have hbv2 : Below v2.heap.size v2 (v2.alloc (.cells (Array.replicate gn (.int .i64 0)) 3)) := (Below.refl _ _).alloc (Nat.le_refl _) _
          have hdmbbb : bb < v2.heap.size := HNbb.out.lt
          have hdmbab : ab < v2.heap.size := HNab.out.lt
          replace HNbb := Lib.hid (HNbb.out.below hbv2)
          replace HNab := Lib.hid (HNab.out.below hbv2)
          have hnmb : u.heap.size ≤ v2.heap.size := hT2.size
          have exmb : ∃ x, v2.heap.size = x := ⟨_, rfl⟩
          replace HNmb : Hid (BlkF (v2.alloc (.cells (Array.replicate gn (.int .i64 0)) 3)) u.heap.size v2.heap.size (List.replicate gn (.int .i64 0))) := HNmb
          generalize hq2 : v2.alloc (.cells (Array.replicate gn (.int .i64 0)) 3) = v3 at *
          have hT3 : Below u.heap.size u v3 := hT2.trans (hbv2.mono hT2.size)
          obtain ⟨mb, emb⟩ := exmb
          rw [emb] at HNmb hnmb ⊢
          clear hbv2 hq2
          rw [emb] at hdmbbb
          rw [emb] at hdmbab
          refine wpAnyH_ready (rs := [8]) (by kernel_rfl) (by simp) ?_
          refine AllReadyH.cons rfl (fun K hK => ?_) (AllReadyH.nil)
          have HBs : Hid (BlkF (v3.setCell ⟨ab, 0, none⟩ (.int .i64 t)) u.heap.size ab [.int .i64 t]) := Lib.hid (BlkF.st (vs' := [.int .i64 t]) HNab.out rfl)
          have hTs : Below u.heap.size u (v3.setCell ⟨ab, 0, none⟩ (.int .i64 t)) := stW_below HNab.out.ge [.int .i64 t] v3 0 hT3
          have u_0 := b1 HNab.out
          have u_f := HNab.out.fz
          go_simp
          go_wp2_with fail
          refine hK.out _ _ (HS.out _ hTs) (fun hHeld => ?_)
          clear hK K
          try simp only [Act.put, sA, sB, sC]
          clear u_f u_0
          have H2HNbb : Hid (BlkF (v3.setCell ⟨ab, 0, none⟩ (.int .i64 t)) u.heap.size bb _) := Lib.hid (HNbb.out.other (c := ab) (i := 0) (l := [.int .i64 t]) (by have := HNbb.out.lt; omega))
          have H2HNmb : Hid (BlkF (v3.setCell ⟨ab, 0, none⟩ (.int .i64 t)) u.heap.size mb _) := Lib.hid (HNmb.out.other (c := ab) (i := 0) (l := [.int .i64 t]) (by have := HNmb.out.lt; omega))
          clear HNab
          generalize hs3 : (v3.setCell ⟨ab, 0, none⟩ (.int .i64 t)) = v4 at *
          clear hs3
          have hT4 := hTs
          clear hTs
          have HNab := HBs
          clear HBs
          replace HNbb := H2HNbb
          replace HNmb := H2HNmb
          refine wpAnyH_ready (rs := [9]) (by kernel_rfl) (by simp) ?_
          refine AllReadyH.cons rfl (fun K hK => ?_) (AllReadyH.nil)
          have HBs : Hid (BlkF (v4.setCell ⟨bb, 0, none⟩ (.slice (some ⟨mb, 0, none⟩) gn gn)) u.heap.size bb [.slice (some ⟨mb, 0, none⟩) gn gn]) := Lib.hid (BlkF.st (vs' := [.slice (some ⟨mb, 0, none⟩) gn gn]) HNbb.out rfl)
          have hTs : Below u.heap.size u (v4.setCell ⟨bb, 0, none⟩ (.slice (some ⟨mb, 0, none⟩) gn gn)) := stW_below HNbb.out.ge [.slice (some ⟨mb, 0, none⟩) gn gn] v4 0 hT4
          have u_0 := b1 HNbb.out
          have u_f := HNbb.out.fz
          go_simp
          go_wp2_with fail
          refine hK.out _ _ (HS.out _ hTs) (fun hHeld => ?_)
          clear hK K
          try simp only [Act.put, sA, sB, sC]
          clear u_f u_0
          have H2HNab : Hid (BlkF (v4.setCell ⟨bb, 0, none⟩ (.slice (some ⟨mb, 0, none⟩) gn gn)) u.heap.size ab _) := Lib.hid (HNab.out.other (c := bb) (i := 0) (l := [.slice (some ⟨mb, 0, none⟩) gn gn]) (by have := HNab.out.lt; omega))
          have H2HNmb : Hid (BlkF (v4.setCell ⟨bb, 0, none⟩ (.slice (some ⟨mb, 0, none⟩) gn gn)) u.heap.size mb _) := Lib.hid (HNmb.out.other (c := bb) (i := 0) (l := [.slice (some ⟨mb, 0, none⟩) gn gn]) (by have := HNmb.out.lt; omega))
          clear HNbb
          generalize hs4 : (v4.setCell ⟨bb, 0, none⟩ (.slice (some ⟨mb, 0, none⟩) gn gn)) = v5 at *
          clear hs4
          have hT5 := hTs
          clear hTs
          have HNbb := HBs
          clear HBs
          replace HNab := H2HNab
          replace HNmb := H2HNmb
          refine wpAnyH_done (by kernel_rfl) ?_ _
          clear HS hHeld
          have ge1 := HNab.out.ge
          have ge2 := HNbb.out.ge
          have ge3 := HNmb.out.ge
          go_wp2_with fail
          gi_meet
          exact ⟨ab, bb, mb, rfl, rfl, by omega, by omega, by omega, by omega, by omega, by omega, by rw [← hz]; exact HNab.out, by rw [← hz]; exact HNbb.out, by rw [← hz]; exact HNmb.out, by rw [← hz, HU.out]; exact hT5⟩
        · skip
          have HBs : Hid (BlkF (v2.setCell ⟨ab, 0, none⟩ (.int .i64 t)) u.heap.size ab [.int .i64 t]) := Lib.hid (BlkF.st (vs' := [.int .i64 t]) HNab.out rfl)
          have hTs : Below u.heap.size u (v2.setCell ⟨ab, 0, none⟩ (.int .i64 t)) := stW_below HNab.out.ge [.int .i64 t] v2 0 hT2
          have u_0 := b1 HNab.out
          have u_f := HNab.out.fz
          go_simp
          go_wp2_with fail
          refine hK.out _ _ (HS.out _ hTs) (fun hHeld => ?_)
          clear hK K
          try simp only [Act.put, sA, sB, sC]
          clear u_f u_0
          have H2HNbb : Hid (BlkF (v2.setCell ⟨ab, 0, none⟩ (.int .i64 t)) u.heap.size bb _) := Lib.hid (HNbb.out.other (c := ab) (i := 0) (l := [.int .i64 t]) (by have := HNbb.out.lt; omega))
          clear HNab
          generalize hs2 : (v2.setCell ⟨ab, 0, none⟩ (.int .i64 t)) = v3 at *
          clear hs2
          have hT3 := hTs
          clear hTs
          have HNab := HBs
          clear HBs
          replace HNbb := H2HNbb
          refine wpAnyH_ready (rs := [5]) (by kernel_rfl) (by simp) ?_
          refine AllReadyH.cons rfl (fun K hK => ?_) (AllReadyH.nil)
          have hmk := fun (w : World) => mkIn8 g1 g8 w
          go_simp
          go_wp2_with fail
          refine hK.out _ _ (HS.out _ (hT3.alloc hT3.size _)) (fun hHeld => ?_)
          clear hK K
          try simp only [Act.put, sA, sB, sC]
          clear hmk
          have HNmb := Lib.hid (BlkF.made (B := u.heap.size) v3 (List.replicate gn (.int .i64 0)) 3 hT3.size)
          have hbv3 : Below v3.heap.size v3 (v3.alloc (.cells (Array.replicate gn (.int .i64 0)) 3)) := (Below.refl _ _).alloc (Nat.le_refl _) _
          have hdmbbb : bb < v3.heap.size := HNbb.out.lt
          have hdmbab : ab < v3.heap.size := HNab.out.lt
          replace HNbb := Lib.hid (HNbb.out.below hbv3)
          replace HNab := Lib.hid (HNab.out.below hbv3)
          have hnmb : u.heap.size ≤ v3.heap.size := hT3.size
          have exmb : ∃ x, v3.heap.size = x := ⟨_, rfl⟩
          replace HNmb : Hid (BlkF (v3.alloc (.cells (Array.replicate gn (.int .i64 0)) 3)) u.heap.size v3.heap.size (List.replicate gn (.int .i64 0))) := HNmb
          generalize hq3 : v3.alloc (.cells (Array.replicate gn (.int .i64 0)) 3) = v4 at *
          have hT4 : Below u.heap.size u v4 := hT3.trans (hbv3.mono hT3.size)
          obtain ⟨mb, emb⟩ := exmb
          rw [emb] at HNmb hnmb ⊢
          clear hbv3 hq3
          rw [emb] at hdmbbb
          rw [emb] at hdmbab
          refine wpAnyH_ready (rs := [9]) (by kernel_rfl) (by simp) ?_
          refine AllReadyH.cons rfl (fun K hK => ?_) (AllReadyH.nil)
          have HBs : Hid (BlkF (v4.setCell ⟨bb, 0, none⟩ (.slice (some ⟨mb, 0, none⟩) gn gn)) u.heap.size bb [.slice (some ⟨mb, 0, none⟩) gn gn]) := Lib.hid (BlkF.st (vs' := [.slice (some ⟨mb, 0, none⟩) gn gn]) HNbb.out rfl)
          have hTs : Below u.heap.size u (v4.setCell ⟨bb, 0, none⟩ (.slice (some ⟨mb, 0, none⟩) gn gn)) := stW_below HNbb.out.ge [.slice (some ⟨mb, 0, none⟩) gn gn] v4 0 hT4
          have u_0 := b1 HNbb.out
          have u_f := HNbb.out.fz
          go_simp
          go_wp2_with fail
          refine hK.out _ _ (HS.out _ hTs) (fun hHeld => ?_)
          clear hK K
          try simp only [Act.put, sA, sB, sC]
          clear u_f u_0
          have H2HNab : Hid (BlkF (v4.setCell ⟨bb, 0, none⟩ (.slice (some ⟨mb, 0, none⟩) gn gn)) u.heap.size ab _) := Lib.hid (HNab.out.other (c := bb) (i := 0) (l := [.slice (some ⟨mb, 0, none⟩) gn gn]) (by have := HNab.out.lt; omega))
          have H2HNmb : Hid (BlkF (v4.setCell ⟨bb, 0, none⟩ (.slice (some ⟨mb, 0, none⟩) gn gn)) u.heap.size mb _) := Lib.hid (HNmb.out.other (c := bb) (i := 0) (l := [.slice (some ⟨mb, 0, none⟩) gn gn]) (by have := HNmb.out.lt; omega))
          clear HNbb
          generalize hs4 : (v4.setCell ⟨bb, 0, none⟩ (.slice (some ⟨mb, 0, none⟩) gn gn)) = v5 at *
          clear hs4
          have hT5 := hTs
          clear hTs
          have HNbb := HBs
          clear HBs
          replace HNab := H2HNab
          replace HNmb := H2HNmb
          refine wpAnyH_done (by kernel_rfl) ?_ _
          clear HS hHeld
          have ge1 := HNab.out.ge
          have ge2 := HNbb.out.ge
          have ge3 := HNmb.out.ge
          go_wp2_with fail
          gi_meet
          exact ⟨ab, bb, mb, rfl, rfl, by omega, by omega, by omega, by omega, by omega, by omega, by rw [← hz]; exact HNab.out, by rw [← hz]; exact HNbb.out, by rw [← hz]; exact HNmb.out, by rw [← hz, HU.out]; exact hT5⟩
  case rest =>
    obtain ⟨ab, bb, mb, rfl, rfl, d1, d2, d3, ga, gb, gm, ZA, ZB, ZM, hBc⟩ := hcut
    have hz1 : (W.alloc (.cells #[.func (.yield l) #[] #[]] 110)).heap.size = W.heap.size + 1 := by simp
    have hBW : Below W.heap.size W wc := ((Below.refl _ _).alloc (Nat.le_refl _) _).trans (hBc.mono (by omega))
    have ZY := hyb.below (by rw [hz1]; exact hBc)
    have hMc := hM.below hBW
    have hRc := hRb.below hBW
    have hJc := hJB 0 W wc h0 hBW
    obtain ⟨yb, hyb2⟩ : ∃ z, W.heap.size = z := ⟨_, rfl⟩
    have hbs1 : ∀ b ∈ bs, b < yb := fun b hb => by have := hbsw b hb; omega
    have l2 := ZM.lt
    have l3 := ZA.lt
    have l4 := ZB.lt
    obtain ⟨f0, f1, f2, f3, f4, f5⟩ : wc.cell? ⟨fb, 0, none⟩ = some (.string nm) ∧ wc.cell? ⟨fb, 1, none⟩ = some (.int .i64 s) ∧ wc.cell? ⟨fb, 2, none⟩ = some (.slice A gn gc) ∧ wc.cell? ⟨fb, 3, none⟩ = some (.slice B dn dc) ∧ wc.cell? ⟨fb, 4, none⟩ = some (.slice P (dn + 1) pc) ∧ wc.cell? ⟨fb, 5, none⟩ = some (.int .i64 E9) := ⟨hMc.c0, hMc.c1, hMc.c2, hMc.c3, hMc.c4, hMc.c5⟩
    rw [hyb2] at ZY ga gb gm ⊢
    clear hyb hz1 hBc
    gi_wp2_with fail
    refine ⟨trivial, fun _ => by omega, (callsIn_wide.2 (legs_is nm s A B P gn gc dn dc pc E9 _)).mono ?_⟩
    rintro e W0 ⟨rfl, hW0⟩
    have hb0 : Below wc.heap.size wc W0 := by rw [← hW0]; exact (Below.refl _ _).alloc (Nat.le_refl _) _
    have ZF : BlkF W0 0 wc.heap.size [.string nm, .int .i64 s, .slice A gn gc, .slice B dn dc, .slice P (dn + 1) pc, .int .i64 E9] := by rw [← hW0]; exact BlkF.made (B := 0) wc [.string nm, .int .i64 s, .slice A gn gc, .slice B dn dc, .slice P (dn + 1) pc, .int .i64 E9] 67 (Nat.zero_le _)
    have hsz : W0.heap.size = wc.heap.size + 1 := by rw [← hW0]; simp
    clear hW0 f0 f1 f2 f3 f4 f5
    obtain ⟨f2b, hf2⟩ : ∃ z, wc.heap.size = z := ⟨_, rfl⟩
    have hM0 : FolM (f2b :: bs) f2b nm s G D A B P gn gc dn dc pc E9 W0 := by
      have h := hMc.below hb0
      rw [hf2] at ZF
      obtain ⟨e0, e1, e2, e3, e4, e5⟩ := b6 ZF
      exact ⟨by simp, ZF.lt, e0, e1, e2, e3, e4, e5, h.ga.cons, h.le.cons, h.pt.cons⟩
    replace ZA := ZA.below hb0
    replace ZB := ZB.below hb0
    replace ZM := ZM.below hb0
    replace ZY := ZY.below hb0
    replace hRc := hRc.below hb0
    replace hJc := hJB 0 wc W0 hJc (hb0.mono hBW.size)
    obtain ⟨N, hN⟩ : ∃ N, W0.heap.size = N := ⟨_, rfl⟩
    have hbs : ∀ b ∈ f2b :: bs, b < W0.heap.size ∧ b ≠ mb := by
      intro b hb
      rcases List.mem_cons.1 hb with rfl | hb
      · omega
      · have := hbs1 b hb; omega
    have hcl : ∀ k, (conA r.br (legC s G D) gn (List.range k)).length = gn := fun k => (conA_snocL r.br (legC s G D) gn _ (List.range k) rfl).1
    have hne : ∀ k, ((conA r.br (legC s G D) gn (List.range k)).map fun x => Value.int .i64 x) ≠ [] := fun k h => by have := congrArg List.length h; rw [List.length_map, hcl k] at this; simp at this; omega
    obtain ⟨LB, hLBe⟩ : ∃ LB, LB = yb :: bb :: rb :: f2b :: bs := ⟨_, rfl⟩
    have hrbl := hRc.lt
    have hrbW := hRb.lt
    have hLB : ∀ b ∈ LB, b < N ∧ b ≠ mb := by
      intro b hb
      rw [hLBe] at hb
      simp only [List.mem_cons] at hb
      rcases hb with rfl | rfl | rfl | rfl | hb
      · omega
      · omega
      · exact ⟨by omega, by omega⟩
      · exact ⟨by omega, by omega⟩
      · have := hbs1 b hb; omega
    have hLa : ab ∉ LB := by
      intro hb
      rw [hLBe] at hb
      simp only [List.mem_cons] at hb
      rcases hb with e | e | e | e | hb
      · omega
      · omega
      · omega
      · omega
      · have := hbs1 ab hb; omega
    have hLX : ∀ b ∈ LB, b ∉ xs := by
      intro b hb hx
      have hx2 := hxs b hx
      rw [hLBe] at hb
      simp only [List.mem_cons] at hb
      rcases hb with rfl | rfl | rfl | rfl | hb
      · omega
      · omega
      · exact hrx hx
      · omega
      · exact (hbsc b hb).1 hx
    have hLC : ∀ b ∈ LB, ∃ o, W0.heap[b]? = some o ∧ o.isCells = true := by
      intro b hb
      rw [hLBe] at hb
      simp only [List.mem_cons] at hb
      rcases hb with rfl | rfl | rfl | rfl | hb
      · exact cells_of (b1 ZY)
      · exact cells_of (b1 ZB)
      · exact cells_of (hRc.at' 0 _ rfl)
      · exact cells_of hM0.c0
      · obtain ⟨o, ho, hc⟩ := (hbsc b hb).2
        exact ⟨o, ((hBW.trans (hb0.mono hBW.size)).block b (hbsw b hb)).trans ho, hc⟩
    have mY : yb ∈ LB := by rw [hLBe]; simp
    have mB : bb ∈ LB := by rw [hLBe]; simp
    have mR : rb ∈ LB := by rw [hLBe]; simp
    have mS : ∀ b ∈ f2b :: bs, b ∈ LB := fun b hb => by rw [hLBe]; simp only [List.mem_cons] at hb ⊢; exact Or.inr (Or.inr (Or.inr hb))
    have hxa : ab ∉ xs := fun h => by have := hxs ab h; omega
    have hxm : mb ∉ xs := fun h => by have := hxs mb h; omega
    clear hLBe
    rw [hf2] at ZF ⊢
    gi_wp2
    refine wpIn_rangeFunc_pos (Kt := KpB LB) (K2 := KpB (f2b :: bs)) (by omega) (gf := 60) (lb := #[.pointer (some ⟨f2b, 0, none⟩)]) rfl (enters_of Try.func60 (by kernel_rfl) rfl)
      (legs_pos (n - 1) (by omega) (f2b :: bs) f2b nm s G D A B P gn gc dn dc pc E9 W0 hgn hdn hok hM0) KpB.trans (fun W l o o' hl h a b => KpB.put (N := W0.heap.size) (fun b hb => by have := (hLB b hb).1; omega) W l o o' hl h a b) (Below.refl _ _) (fun _ => rfl)
      (fun k X => (BlkF X 0 mb ((conA r.br (legC s G D) gn (List.range k)).map fun x => Value.int .i64 x) ∧ KpB LB W0 X) ∧ (∃ i : Nat, BlkF X 0 ab [.int .i64 (t + (i : Int))] ∧ J i X ∧ NdO s G D t k i ∧ (k = 0 → i = 0)))
      (fun c k X => c = .ret ∧ ∃ i : Nat, i < ndN D t ∧ Jx i X)
      (OwnFrom.and (OwnFrom.and (fun k X Y row hs hg hr => blk_own (β := Unit) (hne k) () X Y row hs hg hr) (kpB_own (fun b hb => by have := (hLB b hb).1; omega) (Nat.le_refl _))) (fun k X Y row hs hg hr => by obtain ⟨i, h1, h2, h3⟩ := hs; exact ⟨i, blk_own (β := Unit) (by simp) () X Y row h1 hg hr, hJ i X Y row h2 hg (fun r e => ⟨by have := (hr r e).1; omega, (hr r e).2⟩), h3⟩))
      (fun c k X Y row hs hg hr => by obtain ⟨h0, i, h1, h2⟩ := hs; exact ⟨h0, i, h1, hJx i X Y row h2 hg (fun r e => ⟨by have := (hr r e).1; omega, (hr r e).2⟩)⟩)
      (fun k X Y hs hb => ⟨⟨hs.1.1.low hb (by omega), hs.1.2.trans (KpB.below hb (fun b hb => by have := (hLB b hb).1; omega))⟩, by obtain ⟨i, h1, h2, h3⟩ := hs.2; exact ⟨i, h1.low hb (by omega), hJB i X Y h2 (hb.mono (by omega)), h3⟩⟩) (fun _ _ _ h _ => kpB_sub h mS)
      ⟨⟨by have := ZM.base0'; simpa [conA] using this, KpB.refl _ _⟩, 0, by have := ZA.base0'; simpa using this, hJc, ⟨fun j hj => absurd hj (Nat.not_lt_zero _), Or.inl rfl⟩, fun _ => rfl⟩
      (fun k a' X => ∃ Bx t0 t1 t2 t8 t9 t10 t11 t12 t13 t14 t15 t16 t17 t18 t19 t20 t21 t22 t23 t24 t25 t26 t27 t28 t29 t30 t31 t32 t33 t34 t35 t36 t37 t38 t39 t40 t41 t42 t43 t44 t45 t46 t47 t48 t49 t50 t51 t52 t53 t54 t55 t56 t57 t58 t59 t60 t61 t62 t63 t64, N ≤ Bx ∧ BlkF X N Bx [.int .i64 (legC s G D k).s, .int .i64 (legC s G D k).d, .int .i64 (legC s G D k).g, .int .i64 (legC s G D k).nu, .int .i64 (legC s G D k).bs, .int .i64 (legC s G D k).bd, .int .i64 (legC s G D k).su, .int .i64 (legC s G D k).o, .int .i64 (legC s G D k).h] ∧ a' = { tmps := #[t0, t1, t2, .pointer (some ⟨rb, 0, none⟩), .pointer (some ⟨yb, 0, none⟩), .pointer (some ⟨ab, 0, none⟩), .pointer (some ⟨bb, 0, none⟩), .pointer (some ⟨Bx, 0, none⟩), t8, t9, t10, t11, t12, t13, t14, t15, t16, t17, t18, t19, t20, t21, t22, t23, t24, t25, t26, t27, t28, t29, t30, t31, t32, t33, t34, t35, t36, t37, t38, t39, t40, t41, t42, t43, t44, t45, t46, t47, t48, t49, t50, t51, t52, t53, t54, t55, t56, t57, t58, t59, t60, t61, t62, t63, t64], defers := [] })
      (fun k a' _ X Y row hs hg hr => by obtain ⟨Bx, t0, t1, t2, t8, t9, t10, t11, t12, t13, t14, t15, t16, t17, t18, t19, t20, t21, t22, t23, t24, t25, t26, t27, t28, t29, t30, t31, t32, t33, t34, t35, t36, t37, t38, t39, t40, t41, t42, t43, t44, t45, t46, t47, t48, t49, t50, t51, t52, t53, t54, t55, t56, t57, t58, t59, t60, t61, t62, t63, t64, h1, h2, h3⟩ := hs; exact ⟨Bx, t0, t1, t2, t8, t9, t10, t11, t12, t13, t14, t15, t16, t17, t18, t19, t20, t21, t22, t23, t24, t25, t26, t27, t28, t29, t30, t31, t32, t33, t34, t35, t36, t37, t38, t39, t40, t41, t42, t43, t44, t45, t46, t47, t48, t49, t50, t51, t52, t53, t54, t55, t56, t57, t58, t59, t60, t61, t62, t63, t64, h1, blk_own (β := Unit) (by simp) () X Y row h2 hg hr, h3⟩)
      ?assign ?body ?done ?stop
    case assign =>
      rintro l2 k X K hk hi hK
      have hkX := hi.1.2
      have hNX : N ≤ X.heap.size := by rw [← hN]; exact hkX.1
      gi_wp2
      have hb9 : Below X.heap.size X (X.alloc (.cells #[.int .i64 (legC s G D k).s, .int .i64 (legC s G D k).d, .int .i64 (legC s G D k).g, .int .i64 (legC s G D k).nu, .int .i64 (legC s G D k).bs, .int .i64 (legC s G D k).bd, .int .i64 (legC s G D k).su, .int .i64 (legC s G D k).o, .int .i64 (legC s G D k).h] 94)) := (Below.refl _ _).alloc (Nat.le_refl _) _
      have hkb : KpB LB X (X.alloc (.cells #[.int .i64 (legC s G D k).s, .int .i64 (legC s G D k).d, .int .i64 (legC s G D k).g, .int .i64 (legC s G D k).nu, .int .i64 (legC s G D k).bs, .int .i64 (legC s G D k).bd, .int .i64 (legC s G D k).su, .int .i64 (legC s G D k).o, .int .i64 (legC s G D k).h] 94)) := KpB.below hb9 (fun b hb => by have := (hLB b hb).1; omega)
      refine hK _ _ (keepsFrom_below _ hb9) hkb ?_ ⟨X.heap.size, _, _, _, _, _, _, _, _, _, _, _, _, _, _, _, _, _, _, _, _, _, _, _, _, _, _, _, _, _, _, _, _, _, _, _, _, _, _, _, _, _, _, _, _, _, _, _, _, _, _, _, _, _, _, _, _, _, _, _, _, hNX, BlkF.made (B := N) X [.int .i64 (legC s G D k).s, .int .i64 (legC s G D k).d, .int .i64 (legC s G D k).g, .int .i64 (legC s G D k).nu, .int .i64 (legC s G D k).bs, .int .i64 (legC s G D k).bd, .int .i64 (legC s G D k).su, .int .i64 (legC s G D k).o, .int .i64 (legC s G D k).h] 94 hNX, rfl⟩
      obtain ⟨i, h1, h2, h3⟩ := hi.2
      exact ⟨⟨hi.1.1.below hb9, hkX.trans hkb⟩, i, h1.below hb9, hJB i _ _ h2 (hb9.mono (by omega)), h3⟩
    case body =>
      rintro l2 k a' X hl hk ⟨⟨HBm0, hkX⟩, i0, HA0, hJ0, hNd0, hk0i⟩ ⟨Bx, t0, t1, t2, t8, t9, t10, t11, t12, t13, t14, t15, t16, t17, t18, t19, t20, t21, t22, t23, t24, t25, t26, t27, t28, t29, t30, t31, t32, t33, t34, t35, t36, t37, t38, t39, t40, t41, t42, t43, t44, t45, t46, t47, t48, t49, t50, t51, t52, t53, t54, t55, t56, t57, t58, t59, t60, t61, t62, t63, t64, hBx, HB0, rfl⟩
      have hNX : N ≤ X.heap.size := by rw [← hN]; exact hkX.1
      have hkD : k < D.length := by have := hdn.out; omega
      obtain ⟨g9, hg0, hgl⟩ := legC_g hok.out k
      obtain ⟨yl, hyl⟩ : ∃ z, Hid (legC s G D k = z) := ⟨_, Lib.hid rfl⟩
      have hyo : Hid (PlOk yl) := Lib.hid (by rw [← hyl.out]; exact legC_ok hok.out k)
      have hsh : yl.s ≤ 20000 := by rw [← hyl.out]; exact hshort.out k
      rw [hyl.out] at HB0 hg0
      have hg9 := Lib.hid hg0
      rw [hg0] at HB0
      clear hg0
      have hgn2 : g9 < gn := by have := hgn.out; omega
      obtain ⟨L, hL⟩ : ∃ z, Hid (conA r.br (legC s G D) gn (List.range k) = z) := ⟨_, Lib.hid rfl⟩
      have hbr := hru.out.br
      have hLl : L.length = gn := by rw [← hL.out]; exact hcl k
      have hLb := (conA_snocL r.br (legC s G D) gn _ (List.range k) rfl).2 (legC_ok hok.out) hbr.1 hbr.2 g9
      rw [hL.out, List.length_range] at hLb
      obtain ⟨c9, hc9⟩ : ∃ z, Hid (L.getD g9 0 = z) := ⟨_, Lib.hid rfl⟩
      rw [hc9.out] at hLb
      have hlen2 : (k : Int) * 6220000000000000 ≤ 60 * 6220000000000000 := by omega
      have hys := hyo.out.s
      have hyb := hyo.out.bs
      have hrbl := hRb.lt
      have q0 : ¬ (g9 : Int) < 0 := by omega
      have q1 : (g9 : Int) < (gn : Int) := by omega
      have hwE : IntKind.i64.wrap (yl.bs + yl.s) = yl.bs + yl.s := IntWalk.i64_in _ (by omega)
      have hec : endC s G D k = yl.bs + yl.s := by unfold endC; rw [hyl.out]
      have hecS : yl.bs + yl.s ≤ 20000 := by
        have h1 := sec_mono hok.out (show k + 1 ≤ D.length by omega) (Nat.le_refl _)
        rw [← endC_is (s := s) (G := G) hkD, hec] at h1
        have := hS9.out
        omega
      have hecT : yl.bs + yl.s ≤ secT D dn := by
        have h1 := sec_mono hok.out (show k + 1 ≤ D.length by omega) (Nat.le_refl _)
        rw [← endC_is (s := s) (G := G) hkD, hec] at h1
        rw [hdn.out]
        exact h1
      have hybk : Hid (yl.bs = secT D k) := Lib.hid (by rw [← hyl.out, legC_is hkD]; rfl)
      have HST := Lib.hid (And.intro (And.intro HA0 (And.intro HBm0 HB0)) (And.intro hJ0 (ndO_I hok.out hkD hNd0)))
      have hxB : Bx ∉ xs := fun h => by have := hxs Bx h; omega
      clear HA0 HBm0 HB0 hJ0 hNd0 hk0i
      gi_wp2_with fail
      gi_loopw [8] (fun _ wr => ∃ i : Nat, BlkF wr 0 ab [.int .i64 (t + (i : Int))] ∧ BlkF wr 0 mb ((conA r.br (legC s G D) gn (List.range k)).map fun x => Value.int .i64 x) ∧ BlkF wr N Bx [.int .i64 yl.s, .int .i64 yl.d, .int .i64 (g9 : Int), .int .i64 yl.nu, .int .i64 yl.bs, .int .i64 yl.bd, .int .i64 yl.su, .int .i64 yl.o, .int .i64 yl.h] ∧ KpB LB X wr ∧ KeepsFrom N X wr ∧ J i wr ∧ Hid (NdI s G D t k i)) (fun _ wr => atM ab (secT D dn) wr)
      case atStart => exact ⟨i0, HST.out.1.1, HST.out.1.2.1, HST.out.1.2.2, KpB.refl _ _, KeepsFrom.refl _ _, HST.out.2.1, Lib.hid HST.out.2.2⟩
      case round =>
        clear HST
        obtain ⟨i, HBA, HBm, HB9, hkY, hkfY, hJY, hNd⟩ := hrel
        have hYX := hkY.1
        obtain ⟨a9, ha9⟩ : ∃ z, Hid (t + (i : Int) = z) := ⟨_, Lib.hid rfl⟩
        rw [ha9.out] at HBA
        have ha0 : 0 ≤ a9 := by have := ha9.out; omega
        have hc : wr.cell? ⟨mb, g9, none⟩ = some (.int .i64 c9) := by
          have hg : (conA r.br (legC s G D) gn (List.range k))[g9]? = some c9 := by rw [hL.out, ← hc9.out, List.getD_eq_getElem?_getD, List.getElem?_eq_getElem (by omega)]; rfl
          exact HBm.at' g9 _ (by rw [List.getElem?_map, hg]; rfl)
        have hl1 : ab < wr.heap.size := by omega
        have hl2 : bb < wr.heap.size := by omega
        have hl3 : mb < wr.heap.size := by omega
        have hl4 : rb < wr.heap.size := by omega
        have hl5 : yb < wr.heap.size := by omega
        obtain ⟨b0', b1', b2', b3', b4', b5', b6', b7', b8'⟩ := b9 HB9
        obtain ⟨w0, w1, w2, w3, w4, w5, w6, w7, w8⟩ := b9 hRc
        have hk0 := hkX.trans hkY
        have cab := b1 HBA
        have cb : wr.cell? ⟨bb, 0, none⟩ = some (.slice (some ⟨mb, 0, none⟩) gn gn) := (kpB_cell hk0 mB 0).trans (b1 ZB)
        have cy : wr.cell? ⟨yb, 0, none⟩ = some (.func (.yield l) #[] #[]) := (kpB_cell hk0 mY 0).trans (b1 ZY)
        replace w0 := (kpB_cell hk0 mR 0).trans w0
        replace w1 := (kpB_cell hk0 mR 1).trans w1
        replace w2 := (kpB_cell hk0 mR 2).trans w2
        replace w3 := (kpB_cell hk0 mR 3).trans w3
        replace w4 := (kpB_cell hk0 mR 4).trans w4
        replace w5 := (kpB_cell hk0 mR 5).trans w5
        replace w6 := (kpB_cell hk0 mR 6).trans w6
        replace w7 := (kpB_cell hk0 mR 7).trans w7
        replace w8 := (kpB_cell hk0 mR 8).trans w8
        have HS : Hid (∀ y, Below wr.heap.size wr y → y.cell? ⟨ab, 0, none⟩ = some (.int .i64 a9) ∧ y.cell? ⟨bb, 0, none⟩ = some (.slice (some ⟨mb, 0, none⟩) gn gn) ∧ y.cell? ⟨Bx, 0, none⟩ = some (.int .i64 yl.s) ∧ y.cell? ⟨Bx, 1, none⟩ = some (.int .i64 yl.d) ∧ y.cell? ⟨Bx, 2, none⟩ = some (.int .i64 (g9 : Int)) ∧ y.cell? ⟨Bx, 3, none⟩ = some (.int .i64 yl.nu) ∧ y.cell? ⟨Bx, 4, none⟩ = some (.int .i64 yl.bs) ∧ y.cell? ⟨Bx, 5, none⟩ = some (.int .i64 yl.bd) ∧ y.cell? ⟨Bx, 6, none⟩ = some (.int .i64 yl.su) ∧ y.cell? ⟨Bx, 7, none⟩ = some (.int .i64 yl.o) ∧ y.cell? ⟨Bx, 8, none⟩ = some (.int .i64 yl.h) ∧ y.cell? ⟨mb, g9, none⟩ = some (.int .i64 c9) ∧ y.cell? ⟨rb, 0, none⟩ = some (.slice AT tn tc) ∧ y.cell? ⟨rb, 1, none⟩ = some (.int .i64 r.a) ∧ y.cell? ⟨rb, 2, none⟩ = some (.int .i64 r.b) ∧ y.cell? ⟨rb, 3, none⟩ = some (.int .i64 r.nc) ∧ y.cell? ⟨rb, 4, none⟩ = some (.int .i64 r.dn) ∧ y.cell? ⟨rb, 5, none⟩ = some (.int .i64 r.br) ∧ y.cell? ⟨rb, 6, none⟩ = some (.int .i64 r.em) ∧ y.cell? ⟨rb, 7, none⟩ = some (.int .i64 r.pa) ∧ y.cell? ⟨rb, 8, none⟩ = some (.int .i64 r.sc)) := Lib.hid fun y hy => ⟨(hy.cell (p := ⟨ab, 0, none⟩) hl1).trans cab, (hy.cell (p := ⟨bb, 0, none⟩) hl2).trans cb, (hy.cell (p := ⟨Bx, 0, none⟩) HB9.lt).trans b0', (hy.cell (p := ⟨Bx, 1, none⟩) HB9.lt).trans b1', (hy.cell (p := ⟨Bx, 2, none⟩) HB9.lt).trans b2', (hy.cell (p := ⟨Bx, 3, none⟩) HB9.lt).trans b3', (hy.cell (p := ⟨Bx, 4, none⟩) HB9.lt).trans b4', (hy.cell (p := ⟨Bx, 5, none⟩) HB9.lt).trans b5', (hy.cell (p := ⟨Bx, 6, none⟩) HB9.lt).trans b6', (hy.cell (p := ⟨Bx, 7, none⟩) HB9.lt).trans b7', (hy.cell (p := ⟨Bx, 8, none⟩) HB9.lt).trans b8', (hy.cell (p := ⟨mb, g9, none⟩) hl3).trans hc, (hy.cell (p := ⟨rb, 0, none⟩) hl4).trans w0, (hy.cell (p := ⟨rb, 1, none⟩) hl4).trans w1, (hy.cell (p := ⟨rb, 2, none⟩) hl4).trans w2, (hy.cell (p := ⟨rb, 3, none⟩) hl4).trans w3, (hy.cell (p := ⟨rb, 4, none⟩) hl4).trans w4, (hy.cell (p := ⟨rb, 5, none⟩) hl4).trans w5, (hy.cell (p := ⟨rb, 6, none⟩) hl4).trans w6, (hy.cell (p := ⟨rb, 7, none⟩) hl4).trans w7, (hy.cell (p := ⟨rb, 8, none⟩) hl4).trans w8⟩
        by_cases hle2 : a9 ≤ yl.bs + yl.s
        · have hiN : i < ndN D t := ndI_lt hok.out hkD (by rw [ha9.out, hec]; exact hle2)
          have hlg := ndI_leg hok.out hkD hNd.out (by rw [ha9.out, hec]; exact hle2)
          have hbeg : yl.bs ≤ a9 := by
            rw [hybk.out, ← ha9.out, ← hlg]
            have h1 := sec_mono hok.out (show k + 1 ≤ D.length by omega) (Nat.le_refl _)
            rw [← endC_is (s := s) (G := G) hkD, hec] at h1
            exact lgN_beg hok.out (by omega) (by omega) (by have := ha9.out; omega)
          obtain ⟨q9, hq9⟩ : ∃ z, Hid (a9 - yl.bs = z) := ⟨_, Lib.hid rfl⟩
          have hq9' := hq9.out
          have hwQ : IntKind.i64.wrap (a9 - yl.bs) = q9 := by rw [IntWalk.i64_in _ (by omega)]; exact hq9.out
          have qa : 0 ≤ q9 := by omega
          have qb : q9 ≤ yl.s := by omega
          clear hq9'
          obtain ⟨n9, hn9⟩ : ∃ z, Hid (nedV yl r q9 = z) := ⟨_, Lib.hid rfl⟩
          have hnb : 0 ≤ n9 ∧ n9 ≤ 2600000000000000000 := by
            rw [← hn9.out]
            have hd := dep_bd hyo.out qa qb
            have h1 := binV_bd hyo.out hbr.1 hbr.2 qa qb hsh
            have h2 := escV_bd (T := T) (su := yl.su) hru.out hyo.out.su.1 hyo.out.su.2 hd.2.2.2.2.2.1 hd.2.2.2.2.2.2
            unfold nedV
            omega
          obtain ⟨am, hAM⟩ : ∃ z, Hid (c9 + n9 = z) := ⟨_, Lib.hid rfl⟩
          have hwS : IntKind.i64.wrap (c9 + n9) = am := by rw [IntWalk.i64_in _ (by omega)]; exact hAM.out
          have hGi : Hid (ndG s G D (t + (i : Int)) = g9) := Lib.hid (by
            unfold ndG
            rw [hlg]
            have h := hg9.out
            rw [← hyl.out, legC_is hkD] at h
            omega)
          have hVi : Hid (ndV r s G D (t + (i : Int)) = am) := Lib.hid (by
            unfold ndV
            rw [hGi.out, hlg, ← hgn.out, hL.out, hc9.out, hyl.out, ← hybk.out, ha9.out, hq9.out, hn9.out]
            exact hAM.out)
          have HNI : Hid (∀ X : World, Calls Try.prog 54 #[.agg #[.int .i64 yl.s, .int .i64 yl.d, .int .i64 (g9 : Int), .int .i64 yl.nu, .int .i64 yl.bs, .int .i64 yl.bd, .int .i64 yl.su, .int .i64 yl.o, .int .i64 yl.h], .agg #[.slice AT tn tc, .int .i64 r.a, .int .i64 r.b, .int .i64 r.nc, .int .i64 r.dn, .int .i64 r.br, .int .i64 r.em, .int .i64 r.pa, .int .i64 r.sc], .int .i64 q9] X fun e w' => e = .returned (.int .i64 n9) ∧ Below X.heap.size X w') := Lib.hid fun X => by
            have h := needIn_is yl T r AT tn tc q9 n9 X hyo hru qa qb hsh hn9
            rw [hg9.out] at h
            exact h
          clear hlg hAM
          gi_wp2
          clear cb b0' b1' b2' b3' b4' b5' b6' b7' b8' w0 w1 w2 w3 w4 w5 w6 w7 w8 hc hwE hnb hLb hlen2
          refine wpIn_np ?_
          refine wpIn_round_held (S := (fun w' => w'.cell? ⟨ab, 0, none⟩ = some (.int .i64 a9) ∧ w'.cell? ⟨bb, 0, none⟩ = some (.slice (some ⟨mb, 0, none⟩) gn gn) ∧ w'.cell? ⟨Bx, 0, none⟩ = some (.int .i64 yl.s) ∧ w'.cell? ⟨Bx, 1, none⟩ = some (.int .i64 yl.d) ∧ w'.cell? ⟨Bx, 2, none⟩ = some (.int .i64 (g9 : Int)) ∧ w'.cell? ⟨Bx, 3, none⟩ = some (.int .i64 yl.nu) ∧ w'.cell? ⟨Bx, 4, none⟩ = some (.int .i64 yl.bs) ∧ w'.cell? ⟨Bx, 5, none⟩ = some (.int .i64 yl.bd) ∧ w'.cell? ⟨Bx, 6, none⟩ = some (.int .i64 yl.su) ∧ w'.cell? ⟨Bx, 7, none⟩ = some (.int .i64 yl.o) ∧ w'.cell? ⟨Bx, 8, none⟩ = some (.int .i64 yl.h) ∧ w'.cell? ⟨mb, g9, none⟩ = some (.int .i64 c9) ∧ w'.cell? ⟨rb, 0, none⟩ = some (.slice AT tn tc) ∧ w'.cell? ⟨rb, 1, none⟩ = some (.int .i64 r.a) ∧ w'.cell? ⟨rb, 2, none⟩ = some (.int .i64 r.b) ∧ w'.cell? ⟨rb, 3, none⟩ = some (.int .i64 r.nc) ∧ w'.cell? ⟨rb, 4, none⟩ = some (.int .i64 r.dn) ∧ w'.cell? ⟨rb, 5, none⟩ = some (.int .i64 r.br) ∧ w'.cell? ⟨rb, 6, none⟩ = some (.int .i64 r.em) ∧ w'.cell? ⟨rb, 7, none⟩ = some (.int .i64 r.pa) ∧ w'.cell? ⟨rb, 8, none⟩ = some (.int .i64 r.sc))) (by kernel_rfl) (by kernel_rfl) not_letsOut_np (HS.out _ (Below.refl _ _).drew) (fun hHeld => ?_)
          have hT0 : Below wr.heap.size wr wr.drew := (Below.refl _ _).drew
          generalize hdr : wr.drew = v0 at *
          clear hdr
          refine tkH 0 ⟨some 29, _, _, _, _, _⟩ ?_ rfl ?_ (by assumption) ?_
          rotate_left
          · (intro w hSw; (try dsimp only at hSw); go_simp; all_goals with_reducible rfl)
          try simp only [Act.put, sA, sB, sC]
          refine tkH 1 ⟨some 30, _, _, _, _, _⟩ ?_ rfl ?_ (by assumption) ?_
          rotate_left
          · (intro w hSw; (try dsimp only at hSw); go_simp; all_goals with_reducible rfl)
          try simp only [Act.put, sA, sB, sC]
          refine tkH 2 ⟨some 31, _, _, _, _, _⟩ ?_ rfl ?_ (by assumption) ?_
          rotate_left
          · (intro w hSw; (try dsimp only at hSw); go_simp; all_goals with_reducible rfl)
          try simp only [Act.put, sA, sB, sC]
          refine tkH 3 ⟨some 32, _, _, _, _, _⟩ ?_ rfl ?_ (by assumption) ?_
          rotate_left
          · (intro w hSw; (try dsimp only at hSw); go_simp; all_goals with_reducible rfl)
          try simp only [Act.put, sA, sB, sC]
          refine tkH 4 ⟨some 33, _, _, _, _, _⟩ ?_ rfl ?_ (by assumption) ?_
          rotate_left
          · (intro w hSw; (try dsimp only at hSw); go_simp; all_goals with_reducible rfl)
          try simp only [Act.put, sA, sB, sC]
          refine tkH 5 ⟨some 34, _, _, _, _, _⟩ ?_ rfl ?_ (by assumption) ?_
          rotate_left
          · (intro w hSw; (try dsimp only at hSw); go_simp; all_goals with_reducible rfl)
          try simp only [Act.put, sA, sB, sC]
          refine tkH 6 ⟨some 35, _, _, _, _, _⟩ ?_ rfl ?_ (by assumption) ?_
          rotate_left
          · (intro w hSw; (try dsimp only at hSw); go_simp; all_goals with_reducible rfl)
          try simp only [Act.put, sA, sB, sC]
          refine tkH 7 ⟨some 36, _, _, _, _, _⟩ ?_ rfl ?_ (by assumption) ?_
          rotate_left
          · (intro w hSw; (try dsimp only at hSw); go_simp; all_goals with_reducible rfl)
          try simp only [Act.put, sA, sB, sC]
          refine tkH 8 ⟨some 37, _, _, _, _, _⟩ ?_ rfl ?_ (by assumption) ?_
          rotate_left
          · (intro w hSw; (try dsimp only at hSw); go_simp; all_goals with_reducible rfl)
          try simp only [Act.put, sA, sB, sC]
          refine tkH 9 ⟨some 38, _, _, _, _, _⟩ ?_ rfl ?_ (by assumption) ?_
          rotate_left
          · (intro w hSw; (try dsimp only at hSw); go_simp; all_goals with_reducible rfl)
          try simp only [Act.put, sA, sB, sC]
          refine tkH 10 ⟨some 39, _, _, _, _, _⟩ ?_ rfl ?_ (by assumption) ?_
          rotate_left
          · (intro w hSw; (try dsimp only at hSw); go_simp; all_goals with_reducible rfl)
          try simp only [Act.put, sA, sB, sC]
          refine tkH 11 ⟨some 40, _, _, _, _, _⟩ ?_ rfl ?_ (by assumption) ?_
          rotate_left
          · (intro w hSw; (try dsimp only at hSw); go_simp; all_goals with_reducible rfl)
          try simp only [Act.put, sA, sB, sC]
          refine tkH 12 ⟨some 41, _, _, _, _, _⟩ ?_ rfl ?_ (by assumption) ?_
          rotate_left
          · (intro w hSw; (try dsimp only at hSw); go_simp; all_goals with_reducible rfl)
          try simp only [Act.put, sA, sB, sC]
          refine wpAnyH_ready (rs := [13]) (by kernel_rfl) (by simp) ?_
          refine AllReadyH.cons rfl (fun K hK => ?_) (AllReadyH.nil)
          go_simp
          refine (HNI.out _).mono ?_
          rintro e v1 ⟨rfl, hbv0⟩
          have hT1 : Below wr.heap.size wr v1 := hT0.trans (hbv0.mono hT0.size)
          clear hbv0
          go_wp2_with fail
          refine hK.out _ _ (HS.out _ hT1) (fun hHeld => ?_)
          clear hK K
          try simp only [Act.put, sA, sB, sC]
          refine tkH 14 ⟨some 43, _, _, _, _, _⟩ ?_ rfl ?_ (by assumption) ?_
          rotate_left
          · (intro w hSw; (try dsimp only at hSw); go_simp; all_goals with_reducible rfl)
          try simp only [Act.put, sA, sB, sC]
          refine tkH 15 ⟨some 8, _, _, _, _, _⟩ ?_ rfl ?_ (by assumption) ?_
          rotate_left
          · (intro w hSw; (try dsimp only at hSw); go_simp; all_goals with_reducible rfl)
          try simp only [Act.put, sA, sB, sC]
          refine wpAnyH_done (by kernel_rfl) ?_ _
          obtain ⟨v, rfl⟩ : ∃ z, z = v1 := ⟨_, rfl⟩
          have hTv := hT1
          clear hHeld
          obtain ⟨i0, i1, j0, j1, j2, j3, j4, j5, j6, j7, j8, i2, m0, m1, m2, m3, m4, m5, m6, m7, m8⟩ := HS.out _ hTv
          have iy := (hTv.cell (p := ⟨yb, 0, none⟩) hl5).trans cy
          have hYi := hY i v hiN (hJB i _ _ hJY (hTv.mono (by omega)))
          rw [hGi.out, hVi.out, ha9.out] at hYi
          obtain ⟨fn, tmps, assign, body, hy, hR⟩ := hYi
          clear HS
          have HAv := HBA.below hTv
          have HMv := HBm.below hTv
          have HXv := HB9.below hTv
          have hkv : KpB LB X v := hkY.trans (KpB.below hTv (fun b hb => by have := hLB b hb; have := hkY.1; omega))
          have hkfv := hkfY.trans (keepsFrom_below _ hTv)
          gi_wp2
          have hR' : RoundIn (Fence.wide.inRound l2) (n - 1 - 1 - 1) Try.prog l fn tmps assign body v _ := hR
          refine ⟨fun _ => by omega, hR'.mono ?_⟩
          rintro e W3 ⟨hkf3, (⟨rfl, hj3, hff⟩ | ⟨rfl, hjx⟩)⟩
          · have HA3 := keepX_blk hff HAv hxa
            have HM3 := keepX_blkL hff HMv (by rw [List.length_map, hcl k]; omega) hxm
            have HX3 := keepX_blk hff HXv hxB
            have hk3 : KpB LB X W3 := hkv.trans (keepX_kpB hff (fun b hb => ⟨hLX b hb, by obtain ⟨o, ho, hc⟩ := hLC b hb; exact ⟨o, (hkv.2 b hb).trans ((hkX.2 b hb).trans ho), hc⟩⟩))
            have n0 := b1 HA3
            have nf := HA3.fz
            have hNd2 : Hid (NdI s G D t k (i + 1)) := Lib.hid (ndI_step hNd.out (by rw [ha9.out, hec]; exact hle2))
            have hA4 : BlkF (W3.setCell ⟨ab, 0, none⟩ (.int .i64 (a9 + 1))) 0 ab [.int .i64 (t + ((i + 1 : Nat) : Int))] := by
              have e : t + ((i + 1 : Nat) : Int) = a9 + 1 := by have := ha9.out; omega
              rw [e]
              exact BlkF.set1 (i := 0) HA3 (by simp) (.int .i64 (a9 + 1))
            have hM4 := HM3.other (c := ab) (i := 0) (l := [.int .i64 (a9 + 1)]) (by omega)
            have hX4 := HX3.other (c := ab) (i := 0) (l := [.int .i64 (a9 + 1)]) (by omega)
            have k6 : KpB LB W3 (W3.setCell ⟨ab, 0, none⟩ (.int .i64 (a9 + 1))) := ⟨by simp, fun b hb => Below.heap_setCell _ _ _ b (fun e => hLa (by have e' : b = ab := e; rw [← e']; exact hb))⟩
            have k5 : Below W.heap.size W3 (W3.setCell ⟨ab, 0, none⟩ (.int .i64 (a9 + 1))) := (Below.refl _ _).setCell (p := ⟨ab, 0, none⟩) (show W.heap.size ≤ ab by omega) _
            have hj4 := hJB (i + 1) _ _ hj3 k5
            have hkf4 : KeepsFrom N X (W3.setCell ⟨ab, 0, none⟩ (.int .i64 (a9 + 1))) := (hkfv.trans ⟨hkf3.size, fun k o hB h ho => hkf3.same k o (by omega) h ho⟩).trans ((KeepsOthers.setCell _ _ _).from _)
            have hwa : IntKind.i64.wrap (a9 + 1) = a9 + 1 := IntWalk.i64_in _ (by omega)
            have hm1 : (W3.setCell ⟨ab, 0, none⟩ (.int .i64 (a9 + 1))).cell? ⟨ab, 0, none⟩ = some (.int .i64 (a9 + 1)) := by have := b1 hA4; rw [show t + ((i + 1 : Nat) : Int) = a9 + 1 by have := ha9.out; omega] at this; exact this
            have HREL := Lib.hid (And.intro hA4 (And.intro hM4 (And.intro hX4 (And.intro (hk3.trans k6) (And.intro hkf4 hj4)))))
            have hMS : Hid (atM ab (secT D dn) (W3.setCell ⟨ab, 0, none⟩ (.int .i64 (a9 + 1))) < atM ab (secT D dn) wr) := Lib.hid (by unfold atM; rw [hm1, cab]; simp only [intOf]; omega)
            clear hA4 hM4 hX4 k6 k5 hj4 hkf4 hm1 hk3 HX3 HM3 HA3
            gi_wp2
            go_roundw
            case rel => exact ⟨i + 1, HREL.out.1, HREL.out.2.1, HREL.out.2.2.1, HREL.out.2.2.2.1, HREL.out.2.2.2.2.1, HREL.out.2.2.2.2.2, hNd2⟩
            case measure => exact hMS.out
          · gi_wp2
            exact ⟨by rw [hN]; exact hkfv.trans ⟨hkf3.size, fun k o hB h ho => hkf3.same k o (by omega) h ho⟩, rfl, i, hiN, hjx⟩
        · have hno := Lib.hid (ndI_out hNd.out (by rw [ha9.out, hec]; exact hle2))
          obtain ⟨b9q, hb9q⟩ : ∃ z, Hid (brV yl r.br = z) := ⟨_, Lib.hid rfl⟩
          have hbq := brV_bd hyo.out hbr.1 hbr.2
          rw [hb9q.out] at hbq
          obtain ⟨s9, hs9⟩ : ∃ z, Hid (c9 + b9q = z) := ⟨_, Lib.hid rfl⟩
          have hwS : IntKind.i64.wrap (c9 + b9q) = s9 := by rw [IntWalk.i64_in _ (by omega)]; exact hs9.out
          have HBR : Hid (∀ X : World, Calls Try.prog 46 #[.agg #[.int .i64 yl.s, .int .i64 yl.d, .int .i64 (g9 : Int), .int .i64 yl.nu, .int .i64 yl.bs, .int .i64 yl.bd, .int .i64 yl.su, .int .i64 yl.o, .int .i64 yl.h], .int .i64 r.br] X fun e w' => e = .returned (.int .i64 b9q) ∧ Below X.heap.size X w') := Lib.hid fun X => by
            have h := breathed_is yl r.br b9q X hyo hbr.1 hbr.2 hb9q
            rw [hg9.out] at h
            exact h
          gi_wp2
          clear cb cy b0' b1' b2' b3' b4' b5' b6' b7' b8' w0 w1 w2 w3 w4 w5 w6 w7 w8 hc hwE hY hbq
          refine wpIn_round_heldZ (S := (fun w' => w'.cell? ⟨ab, 0, none⟩ = some (.int .i64 a9) ∧ w'.cell? ⟨bb, 0, none⟩ = some (.slice (some ⟨mb, 0, none⟩) gn gn) ∧ w'.cell? ⟨Bx, 0, none⟩ = some (.int .i64 yl.s) ∧ w'.cell? ⟨Bx, 1, none⟩ = some (.int .i64 yl.d) ∧ w'.cell? ⟨Bx, 2, none⟩ = some (.int .i64 (g9 : Int)) ∧ w'.cell? ⟨Bx, 3, none⟩ = some (.int .i64 yl.nu) ∧ w'.cell? ⟨Bx, 4, none⟩ = some (.int .i64 yl.bs) ∧ w'.cell? ⟨Bx, 5, none⟩ = some (.int .i64 yl.bd) ∧ w'.cell? ⟨Bx, 6, none⟩ = some (.int .i64 yl.su) ∧ w'.cell? ⟨Bx, 7, none⟩ = some (.int .i64 yl.o) ∧ w'.cell? ⟨Bx, 8, none⟩ = some (.int .i64 yl.h) ∧ w'.cell? ⟨mb, g9, none⟩ = some (.int .i64 c9) ∧ w'.cell? ⟨rb, 0, none⟩ = some (.slice AT tn tc) ∧ w'.cell? ⟨rb, 1, none⟩ = some (.int .i64 r.a) ∧ w'.cell? ⟨rb, 2, none⟩ = some (.int .i64 r.b) ∧ w'.cell? ⟨rb, 3, none⟩ = some (.int .i64 r.nc) ∧ w'.cell? ⟨rb, 4, none⟩ = some (.int .i64 r.dn) ∧ w'.cell? ⟨rb, 5, none⟩ = some (.int .i64 r.br) ∧ w'.cell? ⟨rb, 6, none⟩ = some (.int .i64 r.em) ∧ w'.cell? ⟨rb, 7, none⟩ = some (.int .i64 r.pa) ∧ w'.cell? ⟨rb, 8, none⟩ = some (.int .i64 r.sc))) 12 (by kernel_rfl) (by kernel_rfl) (not_letsOut_block not_letsOut_pos) (by kernel_rfl) (by kernel_rfl) (HS.out _ (Below.refl _ _).drew) (fun hHeld => ?_)
          have hT0 : Below wr.heap.size wr wr.drew := (Below.refl _ _).drew
          generalize hdr : wr.drew = v0 at *
          clear hdr
          refine wpAnyZ_take (i := 0) (oi := ⟨some 53, _, _, _, _, _⟩) (v := ?_) (by kernel_rfl) (by kernel_rfl) rfl rfl (by kernel_rfl) (by kernel_rfl) (by kernel_rfl) (fun _ _ _ h => h) (Or.inl ⟨by kernel_rfl, ?_⟩) (by assumption) ?_
          rotate_left
          · (intro w hSw; (try dsimp only at hSw); go_simp; all_goals with_reducible rfl)
          try simp only [Act.put, sA, sB, sC]
          refine wpAnyZ_take (i := 1) (oi := ⟨some 54, _, _, _, _, _⟩) (v := ?_) (by kernel_rfl) (by kernel_rfl) rfl rfl (by kernel_rfl) (by kernel_rfl) (by kernel_rfl) (fun _ _ _ h => h) (Or.inl ⟨by kernel_rfl, ?_⟩) (by assumption) ?_
          rotate_left
          · (intro w hSw; (try dsimp only at hSw); go_simp; all_goals with_reducible rfl)
          try simp only [Act.put, sA, sB, sC]
          refine wpAnyZ_take (i := 2) (oi := ⟨some 55, _, _, _, _, _⟩) (v := ?_) (by kernel_rfl) (by kernel_rfl) rfl rfl (by kernel_rfl) (by kernel_rfl) (by kernel_rfl) (fun _ _ _ h => h) (Or.inl ⟨by kernel_rfl, ?_⟩) (by assumption) ?_
          rotate_left
          · (intro w hSw; (try dsimp only at hSw); go_simp; all_goals with_reducible rfl)
          try simp only [Act.put, sA, sB, sC]
          refine wpAnyZ_take (i := 3) (oi := ⟨some 56, _, _, _, _, _⟩) (v := ?_) (by kernel_rfl) (by kernel_rfl) rfl rfl (by kernel_rfl) (by kernel_rfl) (by kernel_rfl) (fun _ _ _ h => h) (Or.inl ⟨by kernel_rfl, ?_⟩) (by assumption) ?_
          rotate_left
          · (intro w hSw; (try dsimp only at hSw); go_simp; all_goals with_reducible rfl)
          try simp only [Act.put, sA, sB, sC]
          refine wpAnyZ_take (i := 4) (oi := ⟨some 57, _, _, _, _, _⟩) (v := ?_) (by kernel_rfl) (by kernel_rfl) rfl rfl (by kernel_rfl) (by kernel_rfl) (by kernel_rfl) (fun _ _ _ h => h) (Or.inl ⟨by kernel_rfl, ?_⟩) (by assumption) ?_
          rotate_left
          · (intro w hSw; (try dsimp only at hSw); go_simp; all_goals with_reducible rfl)
          try simp only [Act.put, sA, sB, sC]
          refine wpAnyZ_take (i := 5) (oi := ⟨some 58, _, _, _, _, _⟩) (v := ?_) (by kernel_rfl) (by kernel_rfl) rfl rfl (by kernel_rfl) (by kernel_rfl) (by kernel_rfl) (fun _ _ _ h => h) (Or.inl ⟨by kernel_rfl, ?_⟩) (by assumption) ?_
          rotate_left
          · (intro w hSw; (try dsimp only at hSw); go_simp; all_goals with_reducible rfl)
          try simp only [Act.put, sA, sB, sC]
          refine wpAnyZ_take (i := 6) (oi := ⟨some 59, _, _, _, _, _⟩) (v := ?_) (by kernel_rfl) (by kernel_rfl) rfl rfl (by kernel_rfl) (by kernel_rfl) (by kernel_rfl) (fun _ _ _ h => h) (Or.inl ⟨by kernel_rfl, ?_⟩) (by assumption) ?_
          rotate_left
          · (intro w hSw; (try dsimp only at hSw); go_simp; all_goals with_reducible rfl)
          try simp only [Act.put, sA, sB, sC]
          refine wpAnyZ_take (i := 7) (oi := ⟨some 60, _, _, _, _, _⟩) (v := ?_) (by kernel_rfl) (by kernel_rfl) rfl rfl (by kernel_rfl) (by kernel_rfl) (by kernel_rfl) (fun _ _ _ h => h) (Or.inl ⟨by kernel_rfl, ?_⟩) (by assumption) ?_
          rotate_left
          · (intro w hSw; (try dsimp only at hSw); go_simp; all_goals with_reducible rfl)
          try simp only [Act.put, sA, sB, sC]
          refine wpAnyZ_take (i := 8) (oi := ⟨some 61, _, _, _, _, _⟩) (v := ?_) (by kernel_rfl) (by kernel_rfl) rfl rfl (by kernel_rfl) (by kernel_rfl) (by kernel_rfl) (fun _ _ _ h => h) (Or.inl ⟨by kernel_rfl, ?_⟩) (by assumption) ?_
          rotate_left
          · (intro w hSw; (try dsimp only at hSw); go_simp; all_goals with_reducible rfl)
          try simp only [Act.put, sA, sB, sC]
          refine wpAnyZ_call (q := 9) (by kernel_rfl) rfl rfl (fun K hK => ?_)
          go_simp
          refine (HBR.out _).mono ?_
          rintro e v1 ⟨rfl, hbv0⟩
          have hT1 : Below wr.heap.size wr v1 := hT0.trans (hbv0.mono hT0.size)
          clear hbv0
          go_wp2_with fail
          refine hK.out _ _ (HS.out _ hT1) (fun hHeld => ?_)
          clear hK K
          try simp only [Act.put, sA, sB, sC]
          refine wpAnyZ_take (i := 10) (oi := ⟨some 63, _, _, _, _, _⟩) (v := ?_) (by kernel_rfl) (by kernel_rfl) rfl rfl (by kernel_rfl) (by kernel_rfl) (by kernel_rfl) (fun _ _ _ h => h) (Or.inl ⟨by kernel_rfl, ?_⟩) (by assumption) ?_
          rotate_left
          · (intro w hSw; (try dsimp only at hSw); go_simp; all_goals with_reducible rfl)
          try simp only [Act.put, sA, sB, sC]
          refine wpAnyZ_take (i := 11) (oi := ⟨some 64, _, _, _, _, _⟩) (v := ?_) (by kernel_rfl) (by kernel_rfl) rfl rfl (by kernel_rfl) (by kernel_rfl) (by kernel_rfl) (fun _ _ _ h => h) (Or.inl ⟨by kernel_rfl, ?_⟩) (by assumption) ?_
          rotate_left
          · (intro w hSw; (try dsimp only at hSw); go_simp; all_goals with_reducible rfl)
          try simp only [Act.put, sA, sB, sC]
          have HTV := Lib.hid hT1
          have HBM := HBm.low hT1 hl3
          have HAV := HBA.below hT1
          have hfz := HBM.fz g9
          have hcl9 := (HS.out _ hT1).2.2.2.2.2.2.2.2.2.2.2.1
          refine wpAnyZ_last (by kernel_rfl) rfl (fun K hK => ?_)
          go_simp
          go_wp2_with fail
          refine hK.out _ _ ?_
          clear hK K
          try simp only [Act.put, sA, sB, sC]
          have k2 := HBM.set1 (i := g9) (by rw [List.length_map, hcl k]; omega) (.int .i64 s9)
          have k6 : KpB LB X (v1.setCell ⟨mb, g9, none⟩ (.int .i64 s9)) := (hkY.trans (KpB.below HTV.out (fun b hb => by have := (hLB b hb).1; omega))).trans ⟨by simp, fun b hb => Below.heap_setCell _ _ _ b (fun e => (hLB b hb).2 (by rw [e]))⟩
          have k5 : Below W.heap.size v1 (v1.setCell ⟨mb, g9, none⟩ (.int .i64 s9)) := (Below.refl _ _).setCell (p := ⟨mb, g9, none⟩) (show W.heap.size ≤ mb by omega) _
          have k7 := HAV.other (c := mb) (i := g9) (l := [.int .i64 s9]) (by omega)
          refine ⟨by rw [hN]; exact (hkfY.trans (keepsFrom_below _ HTV.out)).trans ((KeepsOthers.setCell _ _ _).from _), k6, ⟨?_, hkX.trans k6⟩, i, by rw [ha9.out]; exact k7, hJB i _ _ hJY ((HTV.out.mono (by omega)).trans k5), hno.out, fun e => absurd e (by omega)⟩
          have e9 : conA r.br (legC s G D) gn (List.range (k + 1)) = L.set g9 s9 := by rw [List.range_succ, conA_snoc, hL.out, hyl.out]; unfold conStep; rw [hg9.out, Int.toNat_natCast, hc9.out, hb9q.out, hs9.out]
          rw [hL.out] at k2
          rw [e9, List.map_set]
          exact k2
    case done =>
      rintro Dq X hDq ⟨_, i, _, hj, hn, h0⟩ hK
      have hi : i = ndN D t := ndO_end t1.out (by rw [← hdn.out]; exact hn) (fun e => h0 (by have := hdn.out; omega))
      rw [hi] at hj
      gi_wp2
      refine ⟨by simp, .inl ⟨_, _, rfl, run_takeDeferred hK, ?_⟩⟩
      refine ⟨_, results_none rfl _ _ _, ⟨_, rfl⟩, .inl ?_⟩
      exact OwnFrom.putObj hJ _ hj (by omega) hK rfl
    case stop =>
      rintro Dq c k X hDq hk ⟨rfl, i, hi, hj⟩ hK
      gi_wp2
      refine ⟨by simp, .inl ⟨_, _, rfl, run_takeDeferred hK, ?_⟩⟩
      refine ⟨_, results_none rfl _ _ _, ⟨_, rfl⟩, .inr ⟨i, hi, ?_⟩⟩
      exact OwnFrom.putObj hJx _ hj (by omega) hK rfl
end Go.Proofs.Ytgidmmmdpmophaa
