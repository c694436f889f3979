import Derived.Test.YtgidmmmdpmophaaRSFLeaf
import Derived.RangeFuncNested
import Derived.RangeFuncBound
import Derived.RangeFuncCalls
import Derived.RangeFuncLeaves
import Derived.Shelf.Abstract
import Derived.Shelf.RegionOpen
import Derived.OwnWalkIn
import Derived.TacticsInMore
import Derived.LoopNIn
import Derived.LoopIn
import Derived.OrdersHeld
import Derived.Deep.RegionHeld
import Derived.Outline
namespace Go.Proofs.Ytgidmmmdpmophaa
open Go.ChangeShapes Go.WideShapes Go.ChangeAt Go.RowKit
set_option linter.unusedVariables false
set_option linter.unusedSimpArgs false
/-- No statement is deferred in a region. -/
def noDef (ops : Array Oper) : Bool := ops.all fun o => match o.op with | .defer _ => false | _ => true
theorem noDef_at {ops : Array Oper} (h : noDef ops = true) {i : Nat} {o : Oper} (ho : ops[i]? = some o) : ∀ c, o.op ≠ .defer c := by
  intro c hc
  unfold noDef at h
  rw [Array.all_eq_true_iff_forall_mem] at h
  have := h o (Array.mem_of_getElem? ho)
  rw [hc] at this
  cases this
theorem upon_round {l n : Nat} {P : Program} {o : Oper} {a : Act} {K : Act → World → Prop} {Q : Exit → Act → World → Prop} : ∀ {r : Result Next}, o.upon P a K Q r → o.uponIn (Fence.wide.inRound l) n P a K Q r
  | .ok (.value v) w', h => h
  | .ok .skip w', h => h
  | .ok (.defer d) w', h => h
  | .ok (.enter f args) w', h => ⟨(fun hd => by cases hd), callsIn_wide.2 h⟩
  | .ok (.row row args) w', h => ⟨(fun hd => by cases hd), fun c cs _ => (h c cs).elim fun v h1 => h1.elim fun w'' h2 => ⟨v, w'', h2.1, stepsIn_wide.2 h2.2⟩⟩
  | .ok (.round l2 f tmps asg bd) w', h => h.elim
  | .halt (.panic v) w', h => h
  | .halt .blocked w', h => h.elim
  | .halt .waiting w', h => h.elim
  | .halt (.exit _) w', h => h.elim
  | .halt (.fatal _) w', h => h.elim
  | .halt (.throw _) w', h => h.elim
  | .halt .goexit w', h => h.elim
  | .halt (.unsupported _) w', h => h.elim
  | .halt (.stuck _) w', h => h.elim
theorem opIn_round {l n : Nat} {P : Program} {o : Oper} {a : Act} {w : World} {K : Act → World → Prop} {Q : Exit → Act → World → Prop} (hd : ∀ c, o.op ≠ .defer c) (h : o.wp P a w K Q) : o.wpIn (Fence.wide.inRound l) n P a w K Q := by
  refine ⟨fun _ _ => trivial, ?_⟩
  have : (o.semAt (Fence.wide.inRound l).round a.eval) = execOp a.eval o := Oper.semAt_some l _ _ hd
  rw [this]
  exact upon_round h
theorem wpAnyIn_round {l n : Nat} {P : Program} {md : Region.Mode} {ops : Array Oper} {Q : Exit → Act → World → Prop} (hd : noDef ops = true) (hQ : ¬ LetsOut Q) : ∀ (fuel : Nat) (listed : Array Bool) (a : Act) (w : World), wpAny P md ops Q fuel listed a w → wpAnyIn (Fence.wide.inRound l) n P md ops Q fuel listed a w
  | 0, _, _, _, h => h
  | fuel + 1, listed, a, w, h => ⟨h.1, fun i hi => by
    have h2 := h.2 i hi
    unfold wpOp at h2
    unfold wpOpIn
    cases ho : ops[i]? with
    | none => rw [ho] at h2; exact wpAnyIn_round hd hQ fuel _ _ _ h2
    | some o =>
      rw [ho] at h2
      show if _ then _ else _
      have h3 : (if Region.wanted o (yielded ops a.tmps) = true then o.wp P a w (wpAny P md ops Q fuel (listed.setIfInBounds i true)) Q ∨ (o.asks P a w ∧ LetsOut Q) else wpAny P md ops Q fuel (listed.setIfInBounds i true) (a.put o.dst undef) w) := h2
      by_cases hw : Region.wanted o (yielded ops a.tmps) = true
      · rw [if_pos hw] at h3 ⊢
        rcases h3 with h3 | h3
        · exact Oper.wpIn_mono (fun a w h => wpAnyIn_round hd hQ fuel _ a w h) (opIn_round (noDef_at hd ho) h3)
        · exact absurd h3.2 hQ
      · rw [if_neg hw] at h3 ⊢
        exact ⟨fun _ _ => trivial, wpAnyIn_round hd hQ fuel _ _ _ h3⟩⟩
/-- The law of a region that draws, within a round. -/
theorem wpIn_round_held {P : Program} {ops : Array Oper} {Q : Exit → Act → World → Prop} {S : World → Prop} {l n id : Nat} {a : Act} {w : World} (hm : P.follows .mixedOrders = true) (hd : noDef ops = true) (hQ : ¬ LetsOut Q) (hS : S w.drew)
    (h : S w.drew → wpAnyH P .any ops Q S ops.size (Array.replicate ops.size false) a w.drew) : (Code.region id ops true).wpIn (Fence.wide.inRound l) n P Q a w :=
  wpIn_region_any hm (wpAnyIn_round hd hQ _ _ _ _ (wpAny_of_held _ _ _ _ (h hS)))
theorem not_letsOut_own {α : Type} {B : Nat} {Kp : World → World → Prop} {I : List α → World → Prop} {Ix : Code → List α → World → Prop} {xs : List α} {W : World} : ¬ LetsOut (ownPostG B Kp I Ix xs W) := fun ⟨_, _, h⟩ => h
/-- What a round of a loop may not touch: some blocks. -/
def KpB (bs : List Nat) (W W' : World) : Prop := W.heap.size ≤ W'.heap.size ∧ ∀ b ∈ bs, W'.heap[b]? = W.heap[b]?
theorem KpB.refl (bs : List Nat) (W : World) : KpB bs W W := ⟨Nat.le_refl _, fun _ _ => rfl⟩
theorem KpB.trans {bs : List Nat} {A B C : World} (h : KpB bs A B) (k : KpB bs B C) : KpB bs A C := ⟨Nat.le_trans h.1 k.1, fun b hb => (k.2 b hb).trans (h.2 b hb)⟩
theorem KpB.put {bs : List Nat} {N : Nat} (hN : ∀ b ∈ bs, b < N) (W : World) (l : Nat) (o o' : Obj) (hl : N ≤ l) (h : W.heap[l]? = some o) (_ : o.isCells = false) (_ : o.isWalk = false) : KpB bs W (W.putObj l o') :=
  ⟨by simp, fun b hb => World.putObj_heap_other (by have := hN b hb; omega)⟩
theorem KpB.below {bs : List Nat} {W W' : World} {N : Nat} (h : Below N W W') (hb : ∀ b ∈ bs, b < N) : KpB bs W W' := ⟨h.size, fun b hb' => h.block b (hb b hb')⟩
theorem grown_of_below {W W' : World} (h : Below W.heap.size W W') : W.grownBy W' none := ⟨h.os, h.tape, h.output, h.size, fun k hk _ => h.block k hk⟩
end Go.Proofs.Ytgidmmmdpmophaa
