import Derived.Test.YtgidmmmdpmophaaRSFRnd
import Derived.Test.YtgidmmmdpmophaaRSFBlk
import Derived.Test.YtgidmmmdpmophaaRSFApg
import Derived.Test.YtgidmmmdpmophaaRSFLastReg
import Derived.RangeFuncBox
import Derived.Outline
namespace Go.Proofs.Ytgidmmmdpmophaa
open Go.ChangeShapes Go.WideShapes Go.ChangeAt Go.RowKit
set_option linter.unusedVariables false
set_option linter.unusedSimpArgs false
theorem not_letsOut_block {id : Nat} {Q : Exit → Act → World → Prop} (h : ¬ LetsOut Q) : ¬ LetsOut (Exit.inBlock id Q) := fun ⟨a, w, hq⟩ => h ⟨a, w, hq⟩
/-- As wpIn_round_held, where the last operation stores into a cell that the region loads. -/
theorem wpIn_round_heldZ {P : Program} {ops : Array Oper} {Q : Exit → Act → World → Prop} {S : World → Prop} {l n id : Nat} {a : Act} {w : World} (z : Nat) (hm : P.follows .mixedOrders = true) (hd : noDef ops = true) (hQ : ¬ LetsOut Q) (hc : chainB .any ops z = true) (hok : okB .any ops (Array.replicate ops.size false) = true) (hS : S w.drew)
    (h : S w.drew → wpAnyZ P .any ops Q S z ops.size (Array.replicate ops.size false) a w.drew) : (Code.region id ops true).wpIn (Fence.wide.inRound l) n P Q a w :=
  wpIn_region_any hm (wpAnyIn_round hd hQ _ _ _ _ (wpAny_of_Z hc _ _ _ _ (okL_of hok) (h hS)))
theorem keepsFrom_below {W W' : World} (B : Nat) (h : Below W.heap.size W W') : KeepsFrom B W W' := ⟨h.size, fun k o _ hk _ => (h.block k (Array.getElem?_eq_some_iff.1 hk).1).trans hk⟩
theorem cell_cells {X : World} {b i : Nat} {v : Value} {o : Obj} (h : X.cell? ⟨b, i, none⟩ = some v) (ho : X.heap[b]? = some o) (hc : o.isCells = false) : False := by
  simp only [World.cell?, ho] at h
  cases o <;> simp [Obj.isCells] at hc h
theorem blk_own {β : Type} {B N b : Nat} {vs : List Value} (hv : vs ≠ []) : OwnFrom B (fun (_ : β) W => BlkF W N b vs) := by
  intro s X Y row hs hg hr
  have hne : some b ≠ row := fun e => by
    obtain ⟨_, o, ho, hc⟩ := hr b e.symm
    cases vs with
    | nil => exact hv rfl
    | cons v l => exact cell_cells (hs.at' 0 v rfl) ho hc
  have hb := hg.block b hs.lt hne
  refine ⟨hs.ge, Nat.lt_of_lt_of_le hs.lt hg.size, fun i v hi => (World.cell?_of_block (a := ⟨b, i, none⟩) hb).trans (hs.at' i v hi), fun j => ?_⟩
  have := hs.fz j
  unfold World.frozen? at this ⊢
  rw [show Y.heap[(⟨b, j, none⟩ : Addr).block]? = X.heap[(⟨b, j, none⟩ : Addr).block]? from hb]
  exact this
/-- What lay below N lies as it lay, but for one block. -/
structure KeptO (N t : Nat) (W W' : World) : Prop where
  size : W.heap.size ≤ W'.heap.size
  same : ∀ b, b < N → b ≠ t → W'.heap[b]? = W.heap[b]?
theorem KeptO.refl (N t : Nat) (W : World) : KeptO N t W W := ⟨Nat.le_refl _, fun _ _ _ => rfl⟩
theorem KeptO.trans {N t : Nat} {A B C : World} (h : KeptO N t A B) (k : KeptO N t B C) : KeptO N t A C := ⟨Nat.le_trans h.size k.size, fun b hb hn => (k.same b hb hn).trans (h.same b hb hn)⟩
theorem KeptO.of_below {N t : Nat} {A B : World} (h : Below N A B) : KeptO N t A B := ⟨h.size, fun b hb _ => h.block b hb⟩
theorem KeptO.cell {N t : Nat} {A B : World} (h : KeptO N t A B) {b : Nat} (hb : b < N) (hn : b ≠ t) (i : Nat) : B.cell? ⟨b, i, none⟩ = A.cell? ⟨b, i, none⟩ := World.cell?_of_block (a := ⟨b, i, none⟩) (h.same b hb hn)
theorem KeptO.sl {N t : Nat} {A B : World} (h : KeptO N t A B) {α : Type} {f : α → List Value} {n : Nat} {C : Option Addr} {L : List α} (hs : SlRows f n A C L) (hN : ∀ ad, C = some ad → ad.block < N ∧ ad.block ≠ t) : SlRows f n B C L := by
  rcases hs with e | ⟨b, off, rfl, hl, hR⟩
  · exact Or.inl e
  · exact Or.inr ⟨b, off, rfl, Nat.lt_of_lt_of_le hl h.size, fun k hk i hi => (h.cell (hN _ rfl).1 (hN _ rfl).2 _).trans (hR k hk i hi)⟩
theorem keptO_own {β : Type} {B N t : Nat} {W0 : World} (hN : N ≤ W0.heap.size) (hB : N ≤ B) : OwnFrom B (fun (_ : β) W => KeptO N t W0 W) := by
  intro s X Y row hs hg hr
  refine ⟨Nat.le_trans hs.size hg.size, fun b hb hn => (hg.block b (by have := hs.size; omega) (fun e => ?_)).trans (hs.same b hb hn)⟩
  have := (hr b e.symm).1
  omega
theorem KeptO.kpB {N t : Nat} {A B : World} (h : KeptO N t A B) {bs : List Nat} (hb : ∀ b ∈ bs, b < N ∧ b ≠ t) : KpB bs A B := ⟨h.size, fun b hm => h.same b (hb b hm).1 (hb b hm).2⟩
/-- A block of cells with its type. -/
def BoxN (W : World) (b : Nat) (t : TypeId) (vs : List Value) : Prop := W.heap[b]? = some (.cells vs.toArray t (0, 0))
theorem BoxN.lt {W : World} {b : Nat} {t : TypeId} {vs : List Value} (h : BoxN W b t vs) : b < W.heap.size := (Array.getElem?_eq_some_iff.1 h).1
theorem BoxN.new (W : World) (t : TypeId) (vs : List Value) : BoxN (W.alloc (.cells vs.toArray t)) W.heap.size t vs := World.alloc_heap_new W _
theorem BoxN.set {W : World} {b : Nat} {t : TypeId} {vs : List Value} (h : BoxN W b t vs) (i : Nat) (v : Value) : BoxN (W.setCell ⟨b, i, none⟩ v) b t (vs.set i v) := by
  obtain ⟨hlt, hk⟩ := Array.getElem?_eq_some_iff.1 h
  show (W.heap.modify b _)[b]? = _
  rw [Array.getElem?_eq_getElem (by rw [Array.size_modify]; exact hlt), Array.getElem_modify_self, hk]
  simp
theorem BoxN.blk {W : World} {b N : Nat} {t : TypeId} {vs : List Value} (h : BoxN W b t vs) (hN : N ≤ b) : BlkF W N b vs :=
  ⟨hN, h.lt, fun i v hv => by simp [World.cell?, show W.heap[b]? = _ from h, hv], fun j => by simp [World.frozen?, show W.heap[b]? = _ from h]⟩
theorem boxN_own {β : Type} (b : Nat) (t : TypeId) (f : β → List Value) : Own (fun s W => BoxN W b t (f s)) := fun s X Y row hs hg hrow =>
  (hg.block b hs.lt (fun e' => by obtain ⟨o, ho, hc⟩ := hrow b e'.symm; rw [show X.heap[b]? = _ from hs] at ho; cases ho; cases hc)).trans hs
theorem BoxN.not_row {W : World} {b : Nat} {t e : TypeId} {vs : List Value} (h : BoxN W b t vs) (hte : t ≠ e) {base size k : Nat} {v : Value} {xs : List Value} (hr : W.ownsRow base e size v k xs) : some b ≠ v.ownBlock := by
  rcases hr.2 with ⟨rfl, _⟩ | ⟨g, cap, cur, rfl, _, hgb, _⟩
  · simp [Value.ownBlock]
  · intro e'
    obtain rfl : b = g := by simpa [Value.ownBlock] using e'
    have := (show W.heap[b]? = _ from h).symm.trans hgb
    simp at this
    exact hte this.2
/-- 'out = append(out, ..)' in a round: the store behind it, too. -/
theorem box_append {W w1 : World} {N B : Nat} {t e : TypeId} {size : Nat} {v v' : Value} {k m : Nat} {xs ys : List Value}
    (hv : Boxed W B t v) (hte : t ≠ e) (hrow : W.ownsRow N e size v k xs) (hN : N ≤ W.heap.size) (hB : B < N) (hown' : w1.ownsRow N e size v' m ys) (hgrow : W.grownBy w1 v.ownBlock) :
    Boxed w1 B t v ∧ Boxed (w1.setCell ⟨B, 0, none⟩ v') B t v' ∧ (w1.setCell ⟨B, 0, none⟩ v').ownsRow N e size v' m ys ∧ KeepsOthers W (w1.setCell ⟨B, 0, none⟩ v') ∧ Below B W (w1.setCell ⟨B, 0, none⟩ v') ∧ KeptO N B W (w1.setCell ⟨B, 0, none⟩ v') := by
  have hv1 : Boxed w1 B t v := hv.kept hgrow (hv.not_row hte hrow)
  have hlt : ∀ j, v.ownBlock = some j → N ≤ j ∧ j < W.heap.size := own_blockG hrow
  have hBW := hv.lt
  refine ⟨hv1, hv1.set v', hown'.kept (grownBy_setCell' w1 B v') (.inr (hv1.not_row hte hown').symm), ?_, ?_, ?_⟩
  · refine (KeepsOthers.of_grownBy hgrow fun j o ej hj => ?_).trans (KeepsOthers.setCell _ _ _)
    rcases hrow.2 with ⟨rfl, _⟩ | ⟨g, cap, cur, rfl, _, hgb, _⟩
    · simp [Value.ownBlock] at ej
    · obtain rfl : g = j := by simpa [Value.ownBlock] using ej
      rw [hgb] at hj; cases hj; rfl
  · refine ((Below.refl B W).grown hgrow (by omega) fun j ej => ?_).setCell (p := ⟨B, 0, none⟩) (Nat.le_refl _) v'
    have := hlt j ej; omega
  · refine ⟨?_, fun b hb hn => ?_⟩
    · have := hgrow.size; simp at this ⊢; omega
    · refine (Below.heap_setCell _ _ _ b (fun e => hn (by rw [e]))).trans (hgrow.block b (by omega) (fun e => ?_))
      have := hlt b e.symm; omega
/-- The blocks of a list that is not empty. -/
def bsO {α : Type} (A : Option Addr) (L : List α) : List Nat := match A, L with | some ad, _ :: _ => [ad.block] | _, _ => []
theorem bsO_lt {α : Type} {f : α → List Value} {n : Nat} {w : World} {A : Option Addr} {L : List α} (h : SlRows f n w A L) : ∀ b ∈ bsO A L, b < w.heap.size := by
  rcases h with rfl | ⟨c, off, rfl, hl, _⟩
  · intro b hb; cases A <;> simp [bsO] at hb
  · intro b hb
    cases L with
    | nil => simp [bsO] at hb
    | cons x l => simp [bsO] at hb; subst hb; exact hl
theorem callsIn_world {F : Fence} {n : Nat} {P : Program} {f : FuncId} {args : Array Value} {w : World} {R : Ending → World → Prop} (S : World → Prop) (h : S w) (k : ∀ X, S X → CallsIn F n P f args X R) : CallsIn F n P f args w R := k w h
def inV (x : Int) : List Value := [.int .i64 x]
end Go.Proofs.Ytgidmmmdpmophaa
