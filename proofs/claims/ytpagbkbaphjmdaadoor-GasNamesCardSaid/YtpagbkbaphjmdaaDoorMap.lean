/- The map of the gases with a name of their own: what a step of its making, a look-up and a step of its range come to. -/
import Derived.Test.YtpagbkbaphjmdaaDoorLeaf
import Derived.Maps.RangeRun
import Derived.ChangeMaps4
import Derived.Outline
namespace Go.Proofs.YtpagbkbaphjmdaaDoor
open Go.ChangeShapes Go.WideShapes Go.ChangeAt Go.RowKit
open Go.ChangeMaps (setBlock)
set_option linter.unusedVariables false

theorem undM (w : World) : (underlying 55).run Tryd.prog w = .ok (.map 9 23) w := by kernel_rfl
theorem undS (w : World) : (underlying 9).run Tryd.prog w = .ok .string w := by kernel_rfl
theorem chkS (b : Bool) (k : ByteArray) (w : World) : (Instr.checkKey b 10000 9 (.string k)).run Tryd.prog w = .ok () w := by kernel_rfl
theorem fndS (k : ByteArray) (l : List MapEntry) (r : Option (Nat × Value)) (w : World) (hf : Instr.findNow .string (.string k) l 0 = some r) : (Instr.findKey 9 (.string k) l).run Tryd.prog w = .ok r w := by
  simp only [Instr.findKey, Sem.run_bind, undS, Result.andThen, hf]
  rfl
theorem updM (w : World) (r : Nat) (es : Array MapEntry) (clock : Nat) (k : ByteArray) (v : Value) (hb : w.heap[r]? = some (.map es clock)) (hf : Instr.findNow .string (.string k) es.toList 0 = some none) :
    (Instr.mapUpdate 55 (.map (some r)) (.string k) v).run Tryd.prog w = .ok () (setBlock w r (.map (es.push { key := .string k, val := v, born := clock }) (clock + 1))) := by
  simp only [Instr.mapUpdate, Sem.run_bind, undM, Result.andThen, getObj, Sem.run, hb, chkS]
  simp [Sem.run, fndS k es.toList none w hf, setObj, hb, setBlock]
theorem push_set (h : Array Obj) (o o' : Obj) : (h.push o).setIfInBounds h.size o' = h.push o' := by
  apply Array.ext_getElem?
  intro i
  by_cases e : h.size = i
  · subst e; simp
  · rw [Array.getElem?_setIfInBounds_ne e, Array.getElem?_push, Array.getElem?_push, if_neg (by omega), if_neg (by omega)]
theorem setBlock_alloc (w : World) (o o' : Obj) : setBlock (w.alloc o) w.heap.size o' = w.alloc o' := by
  unfold setBlock
  show ({ w with heap := (w.heap.push o).setIfInBounds w.heap.size o' } : World) = { w with heap := w.heap.push o' }
  rw [push_set]
theorem alloc_at (w : World) (o : Obj) : (w.alloc o).heap[w.heap.size]? = some o := by
  show (w.heap.push o)[w.heap.size]? = some o
  simp
theorem updA (w : World) (es : Array MapEntry) (clock : Nat) (k : ByteArray) (v : Value) (hf : Instr.findNow .string (.string k) es.toList 0 = some none) :
    (Instr.mapUpdate 55 (.map (some w.heap.size)) (.string k) v).run Tryd.prog (w.alloc (.map es clock)) = .ok () (w.alloc (.map (es.push { key := .string k, val := v, born := clock }) (clock + 1))) := by
  have := updM (w.alloc (.map es clock)) w.heap.size es clock k v (alloc_at w _) hf
  rw [setBlock_alloc] at this
  exact this
def nAir : ByteArray := ⟨#[97, 105, 114]⟩
def nOxy : ByteArray := ⟨#[111, 120, 121, 103, 101, 110]⟩
def nHel : ByteArray := ⟨#[104, 101, 108, 105, 117, 109]⟩
def eAir : MapEntry := { key := .string nAir, val := .agg #[.int .i64 210, .int .i64 0], born := 0 }
def eOxy : MapEntry := { key := .string nOxy, val := .agg #[.int .i64 1000, .int .i64 0], born := 1 }
def eHel : MapEntry := { key := .string nHel, val := .agg #[.int .i64 0, .int .i64 1000], born := 2 }
def namedEs : Array MapEntry := #[eAir, eOxy, eHel]
theorem upd1 (w : World) : (Instr.mapUpdate 55 (.map (some w.heap.size)) (.string ⟨#[97, 105, 114]⟩) (.agg #[.int .i64 210, .int .i64 0])).run Tryd.prog (w.alloc (.map #[] 0)) = .ok () (w.alloc (.map #[eAir] 1)) :=
  updA w #[] 0 nAir _ rfl
theorem upd2 (w : World) : (Instr.mapUpdate 55 (.map (some w.heap.size)) (.string ⟨#[111, 120, 121, 103, 101, 110]⟩) (.agg #[.int .i64 1000, .int .i64 0])).run Tryd.prog (w.alloc (.map #[eAir] 1)) = .ok () (w.alloc (.map #[eAir, eOxy] 2)) :=
  updA w #[eAir] 1 nOxy _ rfl
theorem upd3 (w : World) : (Instr.mapUpdate 55 (.map (some w.heap.size)) (.string ⟨#[104, 101, 108, 105, 117, 109]⟩) (.agg #[.int .i64 0, .int .i64 1000])).run Tryd.prog (w.alloc (.map #[eAir, eOxy] 2)) = .ok () (w.alloc (.map namedEs 3)) :=
  updA w #[eAir, eOxy] 2 nHel _ rfl
theorem namedGases_any (w : World) :
    Calls Tryd.prog 17 #[] w fun e w' => e = .returned (.map (some w.heap.size)) ∧ w.alloc (.map namedEs 3) = w' := by
  have h0 := @run_makeMap Tryd.prog
  have h1 := upd1 w
  have h2 := upd2 w
  have h3 := upd3 w
  go_enter Tryd.func17, Tryd.ntmps17
  go_wp2
  go_ret
  exact ⟨rfl, rfl⟩
end Go.Proofs.YtpagbkbaphjmdaaDoor
