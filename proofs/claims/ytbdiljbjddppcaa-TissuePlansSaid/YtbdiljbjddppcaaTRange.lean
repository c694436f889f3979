/- A range over the states of the examples: the loop's record, its rounds, its end. -/
import Derived.Test.YtbdiljbjddppcaaTStates
import Derived.RangeFuncNested
import Derived.RangeFuncBound
import Derived.RangeFuncCalls
import Derived.RangeFuncLeaves
import Derived.Shelf.Abstract
import Derived.Shelf.RegionOpen
import Derived.OwnWalkIn
import Derived.TacticsInMore
import Derived.LoopNIn
import Derived.LoopIn
import Derived.Sort.CutIn
import Derived.Deep.DrawnRows
import Derived.Laws.Entries
import Derived.Outline
namespace Go.Proofs.Ytbdiljbjddppcaa
open Go.ChangeShapes Go.WideShapes Go.ChangeAt Go.RowKit Go.Shelf
open Go.ChangeMaps (setBlock)
set_option linter.unusedVariables false
set_option linter.unusedSimpArgs false
attribute [local go_sem] Oper.semAt_some
attribute [local go_sem ↓] Go.wp_at_zero Go.wp_at_succ

/-- The record of the loop. -/
def recE (fn : FuncId) (tmps : Array Value) (ps : Array Tmp) (assign body : Code) (D : Nat) : Loop := { state := .ready, pending := none, fn := fn, tmps := tmps, params := ps, assign := assign, body := body, defers := D }
theorem range_end {g : Operand} {ps : Array Tmp} {assign body : Code} {Q : Exit → Act → World → Prop} {a : Act} {w : World} {m : Nat} (h1 : 1 ≤ m) {gf : Nat} {lb : Array Value} (hg : a.eval g = .func (.func gf) #[] lb)
    (eg : ∀ args w, (callFunc gf args).run Try.prog w = .ok (.enter gf args) w) (hps : ps.size = 1) (bB bm : Nat) (hB : bB < w.heap.size) (hbm : bm < w.heap.size)
    (hround : ∀ (fn : FuncId) (R : Loop) (W : World) (x0 x1 x2 x3 : Int) (q qf c1 c2 : Nat) (v : Value), w.heap.size + 2 ≤ W.heap.size → R.state = .ready → R.pending = none → W.heap[w.heap.size + 1]? = some (.loop R) → W.cell? ⟨bB, 0, none⟩ = some v → W.frozen? ⟨bB, 0, none⟩ = false →
      assign.wpIn (Fence.wide.inRound (w.heap.size + 1)) (m - 1 - 1) Try.prog (Exit.then (fun a₁ w₁ => ∃ w₂, (Instr.beginRound (w.heap.size + 1)).run Try.prog w₁ = .ok () w₂ ∧ body.wpIn (Fence.wide.inRound (w.heap.size + 1)) (m - 1 - 1) Try.prog (roundPost Try.prog (w.heap.size + 1) (Round1 bB W (.slice (some ⟨q, qf, none⟩) c1 c2))) a₁ w₂) (fun _ _ _ => False))
        { tmps := (ps.zip #[.agg #[.int .i64 x0, .int .i64 x1, .int .i64 x2, .int .i64 x3, .slice (some ⟨q, qf, none⟩) c1 c2]]).foldl (fun t (p, v) => t.setIfInBounds p v) a.tmps, defers := [] } W)
    (hiter : ∀ (ol : Obj) (W1 : World), Below w.heap.size w W1 → W1.heap.size = w.heap.size + 2 → W1.heap[w.heap.size + 1]? = some ol → W1.heap[w.heap.size]? = some (.deferred (some [])) → Yields (m - 1 - 1) (w.heap.size + 1) w.heap.size bB W1.heap.size ol (.deferred (some [])) →
      CallsIn Fence.wide (m - 1) Try.prog gf (#[.func (.yield (w.heap.size + 1)) #[] #[]] ++ lb) W1 (StatesEnd bm bB W1.heap.size W1))
    (hdone : ∀ (W1 W2 : World) (e : Ending) (o : Obj), Below w.heap.size w W1 → W1.heap.size = w.heap.size + 2 → StatesEnd bm bB W1.heap.size W1 e W2 → W2.heap[w.heap.size]? = some (.deferred (some [])) → Q .normal { a with defers := { target := .collected w.heap.size, args := #[] } :: a.defers } (W2.putObj (w.heap.size + 1) o)) :
    (Code.rangeFunc g ps assign body).wpIn Fence.wide m Try.prog Q a w := by
  refine wpIn_rangeFunc ?_
  intro fn hfn
  show ∃ (l : Nat) (mark : List Deferred) (w₁ : World) (d : Deferred) (w₁' : World) (f : FuncId) (args : Array Value) (w₂ : World), (Instr.enterLoop fn a.tmps ps assign body none).run Try.prog w = _ ∧ _
  obtain ⟨W1, hW1⟩ : ∃ W1, (w.alloc (.deferred (some []))).alloc (.loop (recE fn a.tmps ps assign body w.heap.size)) = W1 := ⟨_, rfl⟩
  have hL1 : W1.heap[w.heap.size + 1]? = some (.loop (recE fn a.tmps ps assign body w.heap.size)) := by
    rw [← hW1]; have := World.alloc_heap_new (w.alloc (.deferred (some []))) (.loop (recE fn a.tmps ps assign body w.heap.size)); rwa [World.size_alloc] at this
  have hK1 : W1.heap[w.heap.size]? = some (.deferred (some [])) := by
    rw [← hW1]; exact (Below.heap_alloc _ _ _ (by simp)).trans (World.alloc_heap_new w _)
  have hz1 : W1.heap.size = w.heap.size + 2 := by rw [← hW1]; simp
  have hb1 : Below w.heap.size w W1 := by rw [← hW1]; exact ((Below.refl _ _).alloc (Nat.le_refl _) _).alloc (by simp) _
  refine ⟨w.heap.size + 1, [{ target := .collected w.heap.size, args := #[] }], W1, { target := .fn (.func gf) lb, args := #[.func (.yield (w.heap.size + 1)) #[] #[]] }, W1, gf,
    #[.func (.yield (w.heap.size + 1)) #[] #[]] ++ lb, W1, ?_, ?_, ?_, ?_, fun _ => h1, ?_⟩
  · rw [← hW1]; exact run_enterLoop_outer _ _ _ _ _
  · simp only [resolve, hg]
    simp [go_sem]
  · intro f' hf'; trivial
  · simp [invoke, go_sem, eg]
  · refine (hiter _ W1 hb1 hz1 hL1 hK1 ?_).mono ?_
    · intro W x0 x1 x2 x3 q qf c1 c2 v hN hl hD hc hf
      have hy := run_yield (P := Try.prog) (args := #[.agg #[.int .i64 x0, .int .i64 x1, .int .i64 x2, .int .i64 x3, .slice (some ⟨q, qf, none⟩) c1 c2]]) hl (by show _ = ps.size; rw [hps]; rfl)
      exact ⟨fn, _, assign, body, hy, roundIn_of_wpIn trivial (hround fn _ W x0 x1 x2 x3 q qf c1 c2 v (by omega) rfl rfl hl hc hf)⟩
    · intro e W2 hS
      have hS' := hS
      obtain ⟨⟨v, rfl⟩, q, hc, hf, hq, hql, r0, r1, r2, r3, hx⟩ := hS
      have hl2 : W2.heap[w.heap.size + 1]? = some (.loop (recE fn a.tmps ps assign body w.heap.size)) := (hx.block _ (by omega) (by omega) (by omega)).trans hL1
      have hd2 : W2.heap[w.heap.size]? = some (.deferred (some [])) := (hx.block _ (by omega) (by omega) (by omega)).trans hK1
      exact ⟨none, _, run_endLoop (P := Try.prog) hl2 (by simp [recE]), hdone W1 W2 _ _ hb1 hz1 hS' hd2⟩
end Go.Proofs.Ytbdiljbjddppcaa
