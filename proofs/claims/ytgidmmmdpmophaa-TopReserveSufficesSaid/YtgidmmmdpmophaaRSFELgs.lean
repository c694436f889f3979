import Derived.Test.YtgidmmmdpmophaaRSFELeg
import Derived.Test.YtgidmmmdpmophaaRSFRnd
import Derived.Sort.CutIn
import Derived.Deep.DrawnRows
import Derived.Outline
namespace Go.Proofs.Ytgidmmmdpmophaa
open Go.Shelf Go.ChangeShapes Go.WideShapes Go.ChangeAt Go.RowKit
set_option linter.unusedVariables false
set_option linter.unusedSimpArgs false
attribute [local go_sem ↓] Go.wp_at_zero Go.wp_at_succ
attribute [local go_sem] Oper.semAt_some
/-- A list in a block that a round of the loop may not touch. -/
def SlK {α : Type} (f : α → List Value) (n : Nat) (w : World) (bs : List Nat) (A : Option Addr) (L : List α) : Prop := L = [] ∨ ∃ b off, A = some ⟨b, off, none⟩ ∧ b ∈ bs ∧ b < w.heap.size ∧ RowsAt f n w b off L
theorem SlK.kp {α : Type} {f : α → List Value} {n : Nat} {w w' : World} {bs : List Nat} {A : Option Addr} {L : List α} (h : SlK f n w bs A L) (hk : KpB bs w w') : SlK f n w' bs A L := by
  rcases h with h | ⟨b, off, e, hb, hl, hR⟩
  · exact Or.inl h
  · exact Or.inr ⟨b, off, e, hb, Nat.lt_of_lt_of_le hl hk.1, fun k hkl i hi => (World.cell?_of_block (a := ⟨b, _, none⟩) (hk.2 b hb)).trans (hR k hkl i hi)⟩
theorem SlK.sl {α : Type} {f : α → List Value} {n : Nat} {w : World} {bs : List Nat} {A : Option Addr} {L : List α} (h : SlK f n w bs A L) : SlRows f n w A L := h.imp id fun ⟨b, off, e, _, hl, hR⟩ => ⟨b, off, e, hl, hR⟩
theorem SlK.below {α : Type} {f : α → List Value} {n : Nat} {w w' : World} {bs : List Nat} {A : Option Addr} {L : List α} (h : SlK f n w bs A L) (hb : Below w.heap.size w w') : SlK f n w' bs A L := by
  rcases h with h | ⟨b, off, e, hm, hl, hR⟩
  · exact Or.inl h
  · exact Or.inr ⟨b, off, e, hm, Nat.lt_of_lt_of_le hl hb.size, hR.below hb hl⟩
/-- A followed plan in memory: its box and its lists. -/
structure FolM (bs : List Nat) (fb : Nat) (nm : ByteArray) (s : Int) (G : List Ga) (D : List Le) (A B P : Option Addr) (gn gc dn dc pc : Nat) (E9 : Int) (X : World) : Prop where
  fm : fb ∈ bs
  fl : fb < X.heap.size
  c0 : X.cell? ⟨fb, 0, none⟩ = some (.string nm)
  c1 : X.cell? ⟨fb, 1, none⟩ = some (.int .i64 s)
  c2 : X.cell? ⟨fb, 2, none⟩ = some (.slice A gn gc)
  c3 : X.cell? ⟨fb, 3, none⟩ = some (.slice B dn dc)
  c4 : X.cell? ⟨fb, 4, none⟩ = some (.slice P (dn + 1) pc)
  c5 : X.cell? ⟨fb, 5, none⟩ = some (.int .i64 E9)
  ga : SlK gaV 2 X bs A G
  le : SlK leV 3 X bs B D
  pt : SlK ptV 2 X bs P (ptL D (dn + 1))
theorem FolM.kp {bs : List Nat} {fb : Nat} {nm : ByteArray} {s : Int} {G : List Ga} {D : List Le} {A B P : Option Addr} {gn gc dn dc pc : Nat} {E9 : Int} {X X' : World} (h : FolM bs fb nm s G D A B P gn gc dn dc pc E9 X) (hk : KpB bs X X') : FolM bs fb nm s G D A B P gn gc dn dc pc E9 X' := by
  have cc : ∀ i, X'.cell? ⟨fb, i, none⟩ = X.cell? ⟨fb, i, none⟩ := fun i => World.cell?_of_block (a := ⟨fb, i, none⟩) (hk.2 fb h.fm)
  exact ⟨h.fm, Nat.lt_of_lt_of_le h.fl hk.1, (cc 0).trans h.c0, (cc 1).trans h.c1, (cc 2).trans h.c2, (cc 3).trans h.c3, (cc 4).trans h.c4, (cc 5).trans h.c5, h.ga.kp hk, h.le.kp hk, h.pt.kp hk⟩
theorem FolM.below {bs : List Nat} {fb : Nat} {nm : ByteArray} {s : Int} {G : List Ga} {D : List Le} {A B P : Option Addr} {gn gc dn dc pc : Nat} {E9 : Int} {X X' : World} (h : FolM bs fb nm s G D A B P gn gc dn dc pc E9 X) (hb : Below X.heap.size X X') : FolM bs fb nm s G D A B P gn gc dn dc pc E9 X' := by
  have cc : ∀ i, X'.cell? ⟨fb, i, none⟩ = X.cell? ⟨fb, i, none⟩ := fun i => hb.cell (p := ⟨fb, i, none⟩) h.fl
  exact ⟨h.fm, Nat.lt_of_lt_of_le h.fl hb.size, (cc 0).trans h.c0, (cc 1).trans h.c1, (cc 2).trans h.c2, (cc 3).trans h.c3, (cc 4).trans h.c4, (cc 5).trans h.c5, h.ga.below hb, h.le.below hb, h.pt.below hb⟩
theorem legs_is (nm : ByteArray) (s : Int) (A B P : Option Addr) (gn gc dn dc pc : Nat) (E9 : Int) (w : World) :
    Calls Try.prog 39 #[.agg #[.string nm, .int .i64 s, .slice A gn gc, .slice B dn dc, .slice P (dn + 1) pc, .int .i64 E9]] w fun e w' => e = .returned (.func (.func 60) #[] #[.pointer (some ⟨w.heap.size, 0, none⟩)]) ∧ w.alloc (.cells #[.string nm, .int .i64 s, .slice A gn gc, .slice B dn dc, .slice P (dn + 1) pc, .int .i64 E9] 67) = w' := by
  go_enter Try.func39, Try.ntmps39
  go_wp2
  go_ret
  exact ⟨rfl, rfl⟩
/-- A right leg for every number. -/
def legC (s : Int) (G : List Ga) (D : List Le) (k : Nat) : Pl := if k < D.length then legK s G D k else ⟨1, 0, 0, 0, 0, 0, 400, 0, 0⟩
theorem legC_is {s : Int} {G : List Ga} {D : List Le} {k : Nat} (h : k < D.length) : legC s G D k = legK s G D k := if_pos h
theorem legC_ok {nm : ByteArray} {s : Int} {G : List Ga} {D : List Le} (h : PlnOk nm s G D) (k : Nat) : PlOk (legC s G D k) := by
  unfold legC
  by_cases hk : k < D.length
  · rw [if_pos hk]; exact legK_ok h hk
  · rw [if_neg hk]; exact ⟨by decide, by decide, by decide, by decide, by decide, by decide⟩
set_option maxRecDepth 100000 in
set_option maxHeartbeats 4000000 in
theorem legs_stops (n : Nat) (hn : 1 ≤ n) (bs : List Nat) (fb : Nat) (nm : ByteArray) (s : Int) (G : List Ga) (D : List Le) (A B P : Option Addr) (gn gc dn dc pc : Nat) (E9 : Int) (w : World) (hgn : Hid (gn = G.length)) (hdn : Hid (dn = D.length)) (hok : Hid (PlnOk nm s G D)) (hM : FolM bs fb nm s G D A B P gn gc dn dc pc E9 w) :
    SeqStopsK Fence.wide n Try.prog 60 #[.pointer (some ⟨fb, 0, none⟩)] (fun k : Nat => #[.agg #[.int .i64 (legC s G D k).s, .int .i64 (legC s G D k).d, .int .i64 (legC s G D k).g, .int .i64 (legC s G D k).nu, .int .i64 (legC s G D k).bs, .int .i64 (legC s G D k).bd, .int .i64 (legC s G D k).su, .int .i64 (legC s G D k).o, .int .i64 (legC s G D k).h]]) (KpB bs) (fun ks => ks = List.range dn) (fun pre => ∃ k, k ≤ dn ∧ pre = List.range k) dn w := by
  intro l J Jx W hW hJ hJx hY h0
  have HM := Lib.hid (hM.below hW)
  have HY := Lib.hid hY
  have HJ := Lib.hid hJ
  clear hY hM hJ hJx
  obtain ⟨c0, c1, c2, c3, c4, c5⟩ : W.cell? ⟨fb, 0, none⟩ = some (.string nm) ∧ W.cell? ⟨fb, 1, none⟩ = some (.int .i64 s) ∧ W.cell? ⟨fb, 2, none⟩ = some (.slice A gn gc) ∧ W.cell? ⟨fb, 3, none⟩ = some (.slice B dn dc) ∧ W.cell? ⟨fb, 4, none⟩ = some (.slice P (dn + 1) pc) ∧ W.cell? ⟨fb, 5, none⟩ = some (.int .i64 E9) := ⟨HM.out.c0, HM.out.c1, HM.out.c2, HM.out.c3, HM.out.c4, HM.out.c5⟩
  have h0' := Lib.hid h0
  clear h0
  refine callsIn_of_wp Try.func60 rfl trivial ?_
  simp only [Try.ntmps60, List.size_toArray, List.length_cons, List.length_nil, Nat.reduceAdd, Nat.reduceSub, Array.replicate_succ, Array.replicate_zero, List.push_toArray, List.append_toArray, List.nil_append, List.cons_append]
  gi_wp2
  gi_loopw [8] (fun i wr => ∃ k : Nat, k ≤ dn ∧ i = .int .i64 k ∧ Hid (J (List.range k) wr) ∧ Hid (FolM bs fb nm s G D A B P gn gc dn dc pc E9 wr)) (fun i _ => dn - (intOf i).toNat)
  case atStart => exact ⟨0, by omega, rfl, h0', HM⟩
  case round =>
    clear HM h0' c0 c1 c2 c3 c4 c5
    obtain ⟨k, hk, rfl, HJs, HM⟩ := hrel
    obtain ⟨c0, c1, c2, c3, c4, c5⟩ : wr.cell? ⟨fb, 0, none⟩ = some (.string nm) ∧ wr.cell? ⟨fb, 1, none⟩ = some (.int .i64 s) ∧ wr.cell? ⟨fb, 2, none⟩ = some (.slice A gn gc) ∧ wr.cell? ⟨fb, 3, none⟩ = some (.slice B dn dc) ∧ wr.cell? ⟨fb, 4, none⟩ = some (.slice P (dn + 1) pc) ∧ wr.cell? ⟨fb, 5, none⟩ = some (.int .i64 E9) := ⟨HM.out.c0, HM.out.c1, HM.out.c2, HM.out.c3, HM.out.c4, HM.out.c5⟩
    by_cases hkd : k < dn
    · have kn : (k : Int) < (dn : Int) := by omega
      have d60 : dn ≤ 60 := by have := hok.out.d6; have := hdn.out; omega
      have hwk : wrap64 ((k : Int) + 1) = (k : Int) + 1 := (IntWalk.i64_left _).symm.trans (IntWalk.i64_in _ (by omega))
      gi_wp2_with fail
      refine ⟨trivial, (callsIn_wide.2 (leg_is nm s G D A B P gn gc dn dc pc E9 k _ hgn hdn hok hkd (Lib.hid HM.out.ga.sl) (Lib.hid HM.out.le.sl) (Lib.hid HM.out.pt.sl))).mono ?_⟩
      rintro e W2 ⟨rfl, hb2⟩
      have hJ2 := HJ.out _ wr W2 none HJs.out (grown_of_below hb2) (fun r e => by cases e)
      have HM2 := Lib.hid (HM.out.below hb2)
      obtain ⟨fn, tmps, assign, body, hy, hR⟩ := HY.out _ k W2 hJ2 (by rw [List.length_range]; exact hkd)
      simp only [legC_is (show k < D.length by have := hdn.out; omega)] at hy
      clear HJs HM hb2 c0 c1 c2 c3 c4 c5 hJ2
      gi_wp2
      refine hR.mono ?_
      rintro e W3 (⟨rfl, hJ3, hk3⟩ | ⟨rfl, hJx3⟩)
      · have HJ3 := Lib.hid hJ3
        have HM3 := Lib.hid (HM2.out.kp hk3)
        clear hJ3 hk3 HM2
        gi_wp2
        go_roundw
        case rel => exact ⟨k + 1, by omega, by go_num, Lib.hid (by rw [List.range_succ]; exact HJ3.out), HM3⟩
        case measure => simp [intOf]; omega
      · gi_wp2
        refine bodyPost_ret (results_none rfl _ _ _) rfl ?_
        exact ⟨⟨_, rfl⟩, .inr ⟨List.range (k + 1), ⟨k + 1, by omega, rfl⟩, by rw [List.range_succ]; exact hJx3⟩⟩
    · have kn : ¬ (k : Int) < (dn : Int) := by omega
      obtain rfl : k = dn := by omega
      gi_wp2
      go_end0
      first | exact ⟨⟨_, rfl⟩, .inl HJs.out⟩ | exact ⟨⟨_, rfl⟩, .inl ⟨_, rfl, HJs.out⟩⟩
end Go.Proofs.Ytgidmmmdpmophaa
