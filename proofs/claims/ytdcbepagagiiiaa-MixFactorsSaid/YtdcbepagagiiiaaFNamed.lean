/- Elements with names of their own: check.Named over two right elements (the vessels and the sources of the examples). -/
import Derived.Test.YtdcbepagagiiiaaFName
import Derived.Test.YtdcbepagagiiiaaFShare2
import Derived.Maps.RangeRun
import Derived.ChangeMaps4
import Derived.Deep.DrawnRows
import Derived.Deep.CutRange
import Derived.Outline
namespace Go.Proofs.Ytdcbepagagiiiaa
open Go.ChangeShapes Go.WideShapes Go.ChangeAt Go.RowKit
open Go.ChangeMaps (setBlock)
set_option linter.unusedVariables false
set_option linter.unusedSimpArgs false
attribute [local go_sem ↓] Go.wp_at_zero Go.wp_at_succ
theorem setBlockF_ne (w : World) (r k : Nat) (o : Obj) (h : k ≠ r) : (setBlock w r o).heap[k]? = w.heap[k]? := by
  unfold setBlock
  exact Array.getElem?_setIfInBounds_ne (Ne.symm h)
theorem setBlockF_eq (w : World) (r : Nat) (o : Obj) (h : r < w.heap.size) : (setBlock w r o).heap[r]? = some o := by
  unfold setBlock
  exact Array.getElem?_setIfInBounds_self_of_lt h
theorem setBlockF_size (w : World) (r : Nat) (o : Obj) : (setBlock w r o).heap.size = w.heap.size := by unfold setBlock; simp
theorem allocF_at (w : World) (o : Obj) : (w.alloc o).heap[w.heap.size]? = some o := by
  show (w.heap.push o)[w.heap.size]? = some o
  simp
/-- All blocks below N are as they were, but one. -/
structure BelowE (x N : Nat) (w w' : World) : Prop where
  os : w'.os = w.os
  tape : w'.tape = w.tape
  output : w'.output = w.output
  size : w.heap.size ≤ w'.heap.size
  block : ∀ k, k < N → k ≠ x → w'.heap[k]? = w.heap[k]?
theorem BelowE.trans {x N : Nat} {a b c : World} (h : BelowE x N a b) (k : BelowE x N b c) : BelowE x N a c :=
  ⟨k.os.trans h.os, k.tape.trans h.tape, k.output.trans h.output, Nat.le_trans h.size k.size, fun i hi h1 => (k.block i hi h1).trans (h.block i hi h1)⟩
theorem BelowE.of {x N n : Nat} {a b : World} (h : Below n a b) (hn : N ≤ n) : BelowE x N a b :=
  ⟨h.os, h.tape, h.output, h.size, fun i hi _ => h.block i (Nat.lt_of_lt_of_le hi hn)⟩
theorem BelowE.set (x N : Nat) (w : World) (o : Obj) : BelowE x N w (setBlock w x o) :=
  ⟨rfl, rfl, rfl, by rw [setBlockF_size]; exact Nat.le_refl _, fun k _ h => setBlockF_ne w x k o h⟩
theorem BelowE.cell {x N : Nat} {w w' : World} (h : BelowE x N w w') {b i : Nat} (hb : b < N) (h1 : b ≠ x) : w'.cell? ⟨b, i, none⟩ = w.cell? ⟨b, i, none⟩ :=
  World.cell?_of_block (a := ⟨b, i, none⟩) (h.block b hb h1)
theorem BelowE.frozen {x N : Nat} {w w' : World} (h : BelowE x N w w') {b i : Nat} (hb : b < N) (h1 : b ≠ x) : w'.frozen? ⟨b, i, none⟩ = w.frozen? ⟨b, i, none⟩ :=
  World.frozen?_of_block (a := ⟨b, i, none⟩) (h.block b hb h1)
/-- Nothing that was there before has changed, where the one block is new. -/
theorem BelowE.below {x N : Nat} {w w' : World} (h : BelowE x N w w') (hx : N ≤ x) : Below N w w' :=
  ⟨h.os, h.tape, h.output, h.size, fun i hi => h.block i hi (by omega)⟩
theorem undMB (w : World) : (underlying 150).run Try.prog w = .ok (.map 9 4) w := by kernel_rfl
theorem undSB (w : World) : (underlying 9).run Try.prog w = .ok .string w := by kernel_rfl
theorem chkSB (b : Bool) (k : ByteArray) (w : World) : (Instr.checkKey b 10000 9 (.string k)).run Try.prog w = .ok () w := by kernel_rfl
theorem fndSB (k : ByteArray) (l : List MapEntry) (r : Option (Nat × Value)) (w : World) (hf : Instr.findNow .string (.string k) l 0 = some r) : (Instr.findKey 9 (.string k) l).run Try.prog w = .ok r w := by
  simp only [Instr.findKey, Sem.run_bind, undSB, Result.andThen, hf]
  rfl
theorem updMB (w : World) (r : Nat) (es : Array MapEntry) (clock : Nat) (k : ByteArray) (v : Value) (hb : w.heap[r]? = some (.map es clock)) (hf : Instr.findNow .string (.string k) es.toList 0 = some none) :
    (Instr.mapUpdate 150 (.map (some r)) (.string k) v).run Try.prog w = .ok () (setBlock w r (.map (es.push { key := .string k, val := v, born := clock }) (clock + 1))) := by
  simp only [Instr.mapUpdate, Sem.run_bind, undMB, Result.andThen, getObj, Sem.run, hb, chkSB]
  simp [Sem.run, fndSB k es.toList none w hf, setObj, hb, setBlock]
theorem lookMB (w : World) (r : Nat) (es : Array MapEntry) (clock : Nat) (k : ByteArray) (hb : w.heap[r]? = some (.map es clock)) (hf : Instr.findNow .string (.string k) es.toList 0 = some none) :
    (Instr.lookup 150 (.map (some r)) (.string k) false).run Try.prog w = .ok (.bool false) w := by
  have hz : ∀ w : World, (zeroValue 4).run Try.prog w = .ok (.bool false) w := fun _ => by kernel_rfl
  have h2 := fndSB k es.toList none w hf
  simp only [Instr.lookup, Sem.run_bind, undMB, Result.andThen, getObj, Sem.run, hb, chkSB]
  simp [h2, hz, Result.andThen]
/-- A name was added to the map in block r. -/
def MapStep (r : Nat) (s : ByteArray) (es : Array MapEntry) (n : Nat) (w : World) (e : Ending) (w' : World) : Prop := e = .returned (.int .i64 0) ∧ w'.heap[r]? = some (.map (es.push { key := .string s, val := .bool true, born := n }) (n + 1)) ∧ BelowE r w.heap.size w w'
theorem cF3x (x y z r : Int) (b : Nat) (w : World) (hr : Hid (firE [x, y, z] = r)) (h0 : w.cell? ⟨b, 0, none⟩ = some (.int .i64 x)) (h1 : w.cell? ⟨b, 1, none⟩ = some (.int .i64 y)) (h2 : w.cell? ⟨b, 2, none⟩ = some (.int .i64 z)) :
    Calls Try.prog 32 #[.slice (some ⟨b, 0, none⟩) 3 3] w fun e w' => e = .returned (.int .i64 r) ∧ w = w' := by
  rw [← hr.out]; exact cFirst3c x y z b w h0 h1 h2
theorem CheckGas_x (o h r : Int) (w : World) (hr : Hid (gasE o h = r)) :
    Calls Try.prog 37 #[.agg #[.int .i64 o, .int .i64 h]] w fun e w' => e = .returned (.int .i64 r) ∧ Below w.heap.size w w' := by
  rw [← hr.out]
  exact (CheckGas_any o h w).mono fun e w' ⟨h1, h2⟩ => ⟨h1, by first | exact h2 | (rw [← h2]; (repeat (first | (with_reducible refine Below.drew ?_) | (with_reducible refine below_drewN ?_ _) | (with_reducible refine Below.alloc ?_ (by first | omega | (simp; done) | (simp; omega) | (simp at *; omega)) _) | (with_reducible refine Below.setCell ?_ (by first | omega | (simp; done) | (simp; omega) | (simp at *; omega)) _) | (with_reducible exact Below.refl _ _) | (with_reducible assumption) | (with_reducible refine Below.trans ?_ (Below.mono (by assumption) (by first | omega | (simp; done) | (simp; omega) | (simp at *; omega)))))))⟩
theorem nameOf_MixVessel (s : ByteArray) (vo mo : Int) (w : World) : Calls Try.prog 78 #[.agg #[.string s, .int .i64 vo, .int .i64 mo]] w fun e w' => e = .returned (.string s) ∧ Below w.heap.size w w' := by
  go_enter Try.func78, Try.ntmps78
  go_wp2
  go_ret
  exact ⟨rfl, (by (repeat (first | (with_reducible refine Below.drew ?_) | (with_reducible refine below_drewN ?_ _) | (with_reducible refine Below.alloc ?_ (by first | omega | (simp; done) | (simp; omega) | (simp at *; omega)) _) | (with_reducible refine Below.setCell ?_ (by first | omega | (simp; done) | (simp; omega) | (simp at *; omega)) _) | (with_reducible exact Below.refl _ _) | (with_reducible assumption) | (with_reducible refine Below.trans ?_ (Below.mono (by assumption) (by first | omega | (simp; done) | (simp; omega) | (simp at *; omega)))))))⟩
theorem errOf_MixVessel (s : ByteArray) (vo mo : Int) (w : World) (hv : Hid (rngE vo 1 1000000 = 0)) (hm : Hid (rngE mo 1 400000 = 0)) : Calls Try.prog 80 #[.agg #[.string s, .int .i64 vo, .int .i64 mo]] w fun e w' => e = .returned (.int .i64 0) ∧ Below w.heap.size w w' := by
  go_enter Try.func80, Try.ntmps80
  go_upto_region 1 with (fail)
  refine wp_region_held_drew (S := (fun w' => w'.cell? ⟨w.heap.size, 1, none⟩ = some (.int .i64 vo) ∧ w'.cell? ⟨w.heap.size, 2, none⟩ = some (.int .i64 mo))) (by kernel_rfl) (by simp [go_sem, World.cell?_alloc_past, *]) (fun hHeld => ?_)
  refine tkH 0 ⟨some 3, _, _, _, _, _⟩ ?_ rfl ?_ (by assumption) ?_
  rotate_left
  · (intro w hSw; (try dsimp only at hSw); go_simp; all_goals with_reducible rfl)
  try simp only [Act.put, sA, sB, sC]
  refine tkH 1 ⟨some 4, _, _, _, _, _⟩ ?_ rfl ?_ (by assumption) ?_
  rotate_left
  · (intro w hSw; (try dsimp only at hSw); go_simp; all_goals with_reducible rfl)
  try simp only [Act.put, sA, sB, sC]
  refine tkH 3 ⟨some 6, _, _, _, _, _⟩ ?_ rfl ?_ (by assumption) ?_
  rotate_left
  · (intro w hSw; (try dsimp only at hSw); go_simp; all_goals with_reducible rfl)
  try simp only [Act.put, sA, sB, sC]
  refine tkH 4 ⟨some 7, _, _, _, _, _⟩ ?_ rfl ?_ (by assumption) ?_
  rotate_left
  · (intro w hSw; (try dsimp only at hSw); go_simp; all_goals with_reducible rfl)
  try simp only [Act.put, sA, sB, sC]
  refine wpAnyH_ready (rs := [2]) (by kernel_rfl) (by simp) ?_
  refine AllReadyH.cons rfl (fun K hK => ?_) AllReadyH.nil
  go_simp
  refine (cRange_any _ _ _ _).mono ?_
  rintro e wq ⟨rfl, rfl⟩
  go_wp2_with fail
  refine hK.out _ _ (by simp [go_sem, World.cell?_alloc_past, *]) (fun hHeld => ?_)
  clear hK K
  try simp only [Act.put, sA, sB, sC]
  refine wpAnyH_ready (rs := [5]) (by kernel_rfl) (by simp) ?_
  refine AllReadyH.cons rfl (fun K hK => ?_) AllReadyH.nil
  go_simp
  refine (cRange_any _ _ _ _).mono ?_
  rintro e wq ⟨rfl, rfl⟩
  go_wp2_with fail
  refine hK.out _ _ (by simp [go_sem, World.cell?_alloc_past, *]) (fun hHeld => ?_)
  clear hK K
  try simp only [Act.put, sA, sB, sC]
  refine wpAnyH_ready (rs := [6]) (by kernel_rfl) (by simp) ?_
  refine AllReadyH.cons rfl (fun K hK => ?_) AllReadyH.nil
  go_simp
  go_wp2_with fail
  refine hK.out _ _ (by simp [go_sem, World.cell?_alloc_past, *]) (fun hHeld => ?_)
  clear hK K
  try simp only [Act.put, sA, sB, sC]
  refine wpAnyH_ready (rs := [7]) (by kernel_rfl) (by simp) ?_
  refine AllReadyH.cons rfl (fun K hK => ?_) AllReadyH.nil
  go_simp
  refine (cF2x (rngE vo 1 1000000) (rngE mo 1 400000) 0 _ _ (Lib.hid (by rw [hv.out, hm.out]; rfl)) (by simp [go_sem]) (by simp [go_sem])).mono ?_
  rintro e wq ⟨rfl, rfl⟩
  go_wp2_with fail
  refine hK.out _ _ (by simp [go_sem, World.cell?_alloc_past, *]) (fun hHeld => ?_)
  clear hK K
  try simp only [Act.put, sA, sB, sC]
  refine tkH 8 ⟨some 2, _, _, _, _, _⟩ ?_ rfl ?_ (by assumption) ?_
  rotate_left
  · (intro w hSw; (try dsimp only at hSw); go_simp; all_goals with_reducible rfl)
  try simp only [Act.put, sA, sB, sC]
  refine wpAnyH_done (by kernel_rfl) ?_ _
  go_wp2
  go_ret
  exact ⟨rfl, (by (repeat (first | (with_reducible refine Below.drew ?_) | (with_reducible refine below_drewN ?_ _) | (with_reducible refine Below.alloc ?_ (by first | omega | (simp; done) | (simp; omega) | (simp at *; omega)) _) | (with_reducible refine Below.setCell ?_ (by first | omega | (simp; done) | (simp; omega) | (simp at *; omega)) _) | (with_reducible exact Below.refl _ _) | (with_reducible assumption) | (with_reducible refine Below.trans ?_ (Below.mono (by assumption) (by first | omega | (simp; done) | (simp; omega) | (simp at *; omega)))))))⟩
set_option maxHeartbeats 1000000 in
theorem named1_MixVessel (s : ByteArray) (vo mo : Int) (p1 p2 p3 r n : Nat) (es : Array MapEntry) (w : World) (h1 : w.cell? ⟨p1, 0, none⟩ = some (.func (.func 78) #[] #[])) (h2 : w.cell? ⟨p2, 0, none⟩ = some (.map (some r))) (h3 : w.cell? ⟨p3, 0, none⟩ = some (.func (.func 80) #[] #[])) (hmap : w.heap[r]? = some (.map es n)) (l1 : p1 < w.heap.size) (l2 : p2 < w.heap.size) (l3 : p3 < w.heap.size) (lr : r < w.heap.size) (n2 : p2 ≠ r) (n3 : p3 ≠ r)
    (hN : Hid (∀ w, Calls Try.prog 88 #[.string s] w fun e w' => e = .returned (.int .i64 0) ∧ Below w.heap.size w w')) (hf : Hid (Instr.findNow .string (.string s) es.toList 0 = some none)) (hv : Hid (rngE vo 1 1000000 = 0)) (hm : Hid (rngE mo 1 400000 = 0)) :
    Calls Try.prog 90 #[.agg #[.string s, .int .i64 vo, .int .i64 mo], .pointer (some ⟨p1, 0, none⟩), .pointer (some ⟨p2, 0, none⟩), .pointer (some ⟨p3, 0, none⟩)] w (MapStep r s es n w) := by
  have HM := Lib.hid hmap
  have k1 : p1 ≠ w.heap.size := by omega
  have k2 : p2 ≠ w.heap.size := by omega
  have k3 : p3 ≠ w.heap.size := by omega
  clear hmap
  go_enter Try.func90, Try.ntmps90
  go_wp2_with fail
  refine (nameOf_MixVessel s vo mo _).mono ?_
  rintro e x1 ⟨rfl, hb1⟩
  have z1 := hb1.size
  try simp at z1
  have q1_1 : x1.cell? ⟨p1, 0, none⟩ = some (.func (.func 78) #[] #[]) := by rw [(bcell hb1).1 _ _ (by first | (simp; done) | (simp; omega) | omega)]; simp [go_sem, World.cell?_alloc_past, *]
  have q2_1 : x1.cell? ⟨p2, 0, none⟩ = some (.map (some r)) := by rw [(bcell hb1).1 _ _ (by first | (simp; done) | (simp; omega) | omega)]; simp [go_sem, World.cell?_alloc_past, *]
  have q3_1 : x1.cell? ⟨p3, 0, none⟩ = some (.func (.func 80) #[] #[]) := by rw [(bcell hb1).1 _ _ (by first | (simp; done) | (simp; omega) | omega)]; simp [go_sem, World.cell?_alloc_past, *]
  have e0_1 : x1.cell? ⟨w.heap.size, 0, none⟩ = some (.string s) := by rw [(bcell hb1).1 _ _ (by first | (simp; done) | (simp; omega) | omega)]; simp [go_sem, World.cell?_alloc_past, *]
  have e1_1 : x1.cell? ⟨w.heap.size, 1, none⟩ = some (.int .i64 vo) := by rw [(bcell hb1).1 _ _ (by first | (simp; done) | (simp; omega) | omega)]; simp [go_sem, World.cell?_alloc_past, *]
  have e2_1 : x1.cell? ⟨w.heap.size, 2, none⟩ = some (.int .i64 mo) := by rw [(bcell hb1).1 _ _ (by first | (simp; done) | (simp; omega) | omega)]; simp [go_sem, World.cell?_alloc_past, *]
  have o1 : w.heap.size < x1.heap.size := by omega
  have lr1 : r < x1.heap.size := by omega
  have l31 : p3 < x1.heap.size := by omega
  have l21 : p2 < x1.heap.size := by omega
  have hB1 : Below w.heap.size w x1 := (by (repeat (first | (with_reducible refine Below.drew ?_) | (with_reducible refine below_drewN ?_ _) | (with_reducible refine Below.alloc ?_ (by first | omega | (simp; done) | (simp; omega) | (simp at *; omega)) _) | (with_reducible refine Below.setCell ?_ (by first | omega | (simp; done) | (simp; omega) | (simp at *; omega)) _) | (with_reducible exact Below.refl _ _) | (with_reducible assumption) | (with_reducible refine Below.trans ?_ (Below.mono (by assumption) (by first | omega | (simp; done) | (simp; omega) | (simp at *; omega)))))))
  clear hb1 h1 h2 h3
  go_wp2_with fail
  refine (hN.out _).mono ?_
  rintro e x2 ⟨rfl, hb2⟩
  have z2 := hb2.size
  try simp at z2
  have q1_2 : x2.cell? ⟨p1, 0, none⟩ = some (.func (.func 78) #[] #[]) := by rw [(bcell hb2).1 _ _ (by first | (simp; done) | (simp; omega) | omega)]; simp [go_sem, World.cell?_alloc_past, *]
  have q2_2 : x2.cell? ⟨p2, 0, none⟩ = some (.map (some r)) := by rw [(bcell hb2).1 _ _ (by first | (simp; done) | (simp; omega) | omega)]; simp [go_sem, World.cell?_alloc_past, *]
  have q3_2 : x2.cell? ⟨p3, 0, none⟩ = some (.func (.func 80) #[] #[]) := by rw [(bcell hb2).1 _ _ (by first | (simp; done) | (simp; omega) | omega)]; simp [go_sem, World.cell?_alloc_past, *]
  have e0_2 : x2.cell? ⟨w.heap.size, 0, none⟩ = some (.string s) := by rw [(bcell hb2).1 _ _ (by first | (simp; done) | (simp; omega) | omega)]; simp [go_sem, World.cell?_alloc_past, *]
  have e1_2 : x2.cell? ⟨w.heap.size, 1, none⟩ = some (.int .i64 vo) := by rw [(bcell hb2).1 _ _ (by first | (simp; done) | (simp; omega) | omega)]; simp [go_sem, World.cell?_alloc_past, *]
  have e2_2 : x2.cell? ⟨w.heap.size, 2, none⟩ = some (.int .i64 mo) := by rw [(bcell hb2).1 _ _ (by first | (simp; done) | (simp; omega) | omega)]; simp [go_sem, World.cell?_alloc_past, *]
  have o2 : w.heap.size < x2.heap.size := by omega
  have lr2 : r < x2.heap.size := by omega
  have l32 : p3 < x2.heap.size := by omega
  have l22 : p2 < x2.heap.size := by omega
  have hB2 : Below w.heap.size w x2 := (by (repeat (first | (with_reducible refine Below.drew ?_) | (with_reducible refine below_drewN ?_ _) | (with_reducible refine Below.alloc ?_ (by first | omega | (simp; done) | (simp; omega) | (simp at *; omega)) _) | (with_reducible refine Below.setCell ?_ (by first | omega | (simp; done) | (simp; omega) | (simp at *; omega)) _) | (with_reducible exact Below.refl _ _) | (with_reducible assumption) | (with_reducible refine Below.trans ?_ (Below.mono (by assumption) (by first | omega | (simp; done) | (simp; omega) | (simp at *; omega)))))))
  clear hb2 q1_1 q2_1 q3_1 e0_1 e1_1 e2_1
  have hm2 : x2.heap[r]? = some (.map es n) := (hB2.block r lr).trans HM.out
  have hl := lookMB x2 r es n s hm2 hf.out
  have hu := updMB x2 r es n s (.bool true) hm2 hf.out
  have SE := BelowE.set r w.heap.size x2 (.map (es.push { key := .string s, val := .bool true, born := n }) (n + 1))
  have SE' := BelowE.set r x2.heap.size x2 (.map (es.push { key := .string s, val := .bool true, born := n }) (n + 1))
  have hs3 : (setBlock x2 r (.map (es.push { key := .string s, val := .bool true, born := n }) (n + 1))).heap[r]? = some (.map (es.push { key := .string s, val := .bool true, born := n }) (n + 1)) := setBlockF_eq x2 r _ lr2
  have hz3 : (setBlock x2 r (.map (es.push { key := .string s, val := .bool true, born := n }) (n + 1))).heap.size = x2.heap.size := setBlockF_size _ _ _
  have c3 := (SE'.cell (b := p3) (i := 0) l32 n3).trans q3_2
  have ce0 := (SE'.cell (b := w.heap.size) (i := 0) o2 (by omega)).trans e0_2
  have ce1 := (SE'.cell (b := w.heap.size) (i := 1) o2 (by omega)).trans e1_2
  have ce2 := (SE'.cell (b := w.heap.size) (i := 2) o2 (by omega)).trans e2_2
  generalize setBlock x2 r (.map (es.push { key := .string s, val := .bool true, born := n }) (n + 1)) = x3 at *
  have HS := Lib.hid hs3
  have HZ := Lib.hid hz3
  have HU := Lib.hid SE
  clear hs3 hz3 SE SE' hm2
  go_wp2_with fail
  refine (errOf_MixVessel s vo mo _ hv hm).mono ?_
  rintro e x4 ⟨rfl, hb4⟩
  go_wp2
  go_ret
  refine ⟨rfl, (hb4.block r (by rw [HZ.out]; exact lr2)).trans HS.out, ?_⟩
  exact ((BelowE.of hB2 (Nat.le_refl _)).trans HU.out).trans (BelowE.of hb4 (by rw [HZ.out]; omega))
set_option maxHeartbeats 1000000 in
theorem each2_MixVessel (s s2 : ByteArray) (vo mo vo2 mo2 : Int) (b cap p1 p2 p3 r : Nat) (w : World) (a0 : w.cell? ⟨b, 0, none⟩ = some (.string s)) (a1 : w.cell? ⟨b, 1, none⟩ = some (.int .i64 vo)) (a2 : w.cell? ⟨b, 2, none⟩ = some (.int .i64 mo)) (a3 : w.cell? ⟨b, 3, none⟩ = some (.string s2)) (a4 : w.cell? ⟨b, 4, none⟩ = some (.int .i64 vo2)) (a5 : w.cell? ⟨b, 5, none⟩ = some (.int .i64 mo2)) (h1 : w.cell? ⟨p1, 0, none⟩ = some (.func (.func 78) #[] #[])) (h2 : w.cell? ⟨p2, 0, none⟩ = some (.map (some r))) (h3 : w.cell? ⟨p3, 0, none⟩ = some (.func (.func 80) #[] #[])) (hmap : w.heap[r]? = some (.map #[] 0)) (lb : b < w.heap.size) (l1 : p1 < w.heap.size) (l2 : p2 < w.heap.size) (l3 : p3 < w.heap.size) (lr : r < w.heap.size) (nb : b ≠ r) (n1 : p1 ≠ r) (n2 : p2 ≠ r) (n3 : p3 ≠ r)
    (hN : Hid (∀ w, Calls Try.prog 88 #[.string s] w fun e w' => e = .returned (.int .i64 0) ∧ Below w.heap.size w w')) (hN2 : Hid (∀ w, Calls Try.prog 88 #[.string s2] w fun e w' => e = .returned (.int .i64 0) ∧ Below w.heap.size w w')) (hf2 : Hid (Instr.findNow .string (.string s2) [{ key := .string s, val := .bool true, born := 0 }] 0 = some none)) (hv : Hid (rngE vo 1 1000000 = 0)) (hm : Hid (rngE mo 1 400000 = 0)) (hv2 : Hid (rngE vo2 1 1000000 = 0)) (hm2 : Hid (rngE mo2 1 400000 = 0)) :
    Calls Try.prog 89 #[.slice (some ⟨b, 0, none⟩) 2 cap, .func (.func 90) #[] #[.pointer (some ⟨p1, 0, none⟩), .pointer (some ⟨p2, 0, none⟩), .pointer (some ⟨p3, 0, none⟩)]] w fun e w' => e = .returned (.int .i64 0) ∧ BelowE r w.heap.size w w' := by
  have HM := Lib.hid hmap
  clear hmap
  have i0 : b ≠ w.heap.size := by omega
  have i1 : p1 ≠ w.heap.size := by omega
  have i2 : p2 ≠ w.heap.size := by omega
  have i3 : p3 ≠ w.heap.size := by omega
  have ir : r ≠ w.heap.size := by omega
  go_enter Try.func89, Try.ntmps89
  go_wp2
  refine wp_loop_rounds 3 ?_
  rw [rounds_succ]
  go_wp2_with fail
  obtain ⟨u1, hu1⟩ : ∃ u, Hid (w.alloc (.cells #[.string s, .int .i64 vo, .int .i64 mo] 102) = u) := ⟨_, Lib.hid rfl⟩
  rw [hu1.out]
  have hbu : Below w.heap.size w u1 := by rw [← hu1.out]; exact (Below.refl _ _).alloc (Nat.le_refl _) _
  have zu : u1.heap.size = w.heap.size + 1 := by rw [← hu1.out]; simp
  have C1 : ∀ b i, b < w.heap.size → u1.cell? ⟨b, i, none⟩ = w.cell? ⟨b, i, none⟩ := fun b i h => hbu.cell (p := ⟨b, i, none⟩) h
  have HC1 := Lib.hid C1
  clear C1
  refine (named1_MixVessel s vo mo p1 p2 p3 r 0 #[] u1 ((HC1.out _ _ l1).trans h1) ((HC1.out _ _ l2).trans h2) ((HC1.out _ _ l3).trans h3) ((hbu.block r lr).trans HM.out) (by omega) (by omega) (by omega) (by omega) n2 n3 hN (Lib.hid rfl) hv hm).mono ?_
  rintro e x1 ⟨rfl, hm1, hE1⟩
  have zx := hE1.size
  have HM1 := Lib.hid hm1
  have C2 : ∀ b i, b < w.heap.size → b ≠ r → x1.cell? ⟨b, i, none⟩ = w.cell? ⟨b, i, none⟩ := fun b i h hn => (hE1.cell (by omega) hn).trans (HC1.out b i h)
  have d0 := (C2 b 0 lb nb).trans a0
  have d1 := (C2 b 1 lb nb).trans a1
  have d2 := (C2 b 2 lb nb).trans a2
  have d3 := (C2 b 3 lb nb).trans a3
  have d4 := (C2 b 4 lb nb).trans a4
  have d5 := (C2 b 5 lb nb).trans a5
  have g1 := (C2 p1 0 l1 n1).trans h1
  have g2 := (C2 p2 0 l2 n2).trans h2
  have g3 := (C2 p3 0 l3 n3).trans h3
  have hEw : BelowE r w.heap.size w x1 := (BelowE.of hbu (Nat.le_refl _)).trans ⟨hE1.os, hE1.tape, hE1.output, hE1.size, fun k hk hn => hE1.block k (by omega) hn⟩
  have jb : b < x1.heap.size := by omega
  have j1 : p1 < x1.heap.size := by omega
  have j2 : p2 < x1.heap.size := by omega
  have j3 : p3 < x1.heap.size := by omega
  have jr : r < x1.heap.size := by omega
  have i0 : b ≠ x1.heap.size := by omega
  have i1 : p1 ≠ x1.heap.size := by omega
  have i2 : p2 ≠ x1.heap.size := by omega
  have i3 : p3 ≠ x1.heap.size := by omega
  have ir : r ≠ x1.heap.size := by omega
  clear C2 HC1 hm1 hE1 hbu a0 a1 a2 a3 a4 a5 h1 h2 h3
  go_wp2_with fail
  rw [rounds_succ]
  go_wp2_with fail
  obtain ⟨u2, hu2⟩ : ∃ u, Hid (x1.alloc (.cells #[.string s2, .int .i64 vo2, .int .i64 mo2] 102) = u) := ⟨_, Lib.hid rfl⟩
  rw [hu2.out]
  have hbu : Below x1.heap.size x1 u2 := by rw [← hu2.out]; exact (Below.refl _ _).alloc (Nat.le_refl _) _
  have zu2 : u2.heap.size = x1.heap.size + 1 := by rw [← hu2.out]; simp
  refine (named1_MixVessel s2 vo2 mo2 p1 p2 p3 r 1 _ u2 ((hbu.cell (p := ⟨p1, 0, none⟩) j1).trans g1) ((hbu.cell (p := ⟨p2, 0, none⟩) j2).trans g2) ((hbu.cell (p := ⟨p3, 0, none⟩) j3).trans g3) ((hbu.block r jr).trans HM1.out) (by omega) (by omega) (by omega) (by omega) n2 n3 hN2 (Lib.hid hf2.out) hv2 hm2).mono ?_
  rintro e x2 ⟨rfl, hm2, hE2⟩
  have hEx : BelowE r w.heap.size x1 x2 := (BelowE.of hbu (by omega)).trans ⟨hE2.os, hE2.tape, hE2.output, hE2.size, fun k hk hn => hE2.block k (by omega) hn⟩
  have HE := Lib.hid (hEw.trans hEx)
  clear hm2 hE2 hbu hEw hEx
  go_wp2_with fail
  rw [rounds_succ]
  go_wp2
  go_ret
  exact ⟨rfl, HE.out⟩
theorem named2_MixVessel (s s2 : ByteArray) (vo mo vo2 mo2 : Int) (b cap : Nat) (w : World) (a0 : w.cell? ⟨b, 0, none⟩ = some (.string s)) (a1 : w.cell? ⟨b, 1, none⟩ = some (.int .i64 vo)) (a2 : w.cell? ⟨b, 2, none⟩ = some (.int .i64 mo)) (a3 : w.cell? ⟨b, 3, none⟩ = some (.string s2)) (a4 : w.cell? ⟨b, 4, none⟩ = some (.int .i64 vo2)) (a5 : w.cell? ⟨b, 5, none⟩ = some (.int .i64 mo2)) (lb : b < w.heap.size)
    (hN : Hid (∀ w, Calls Try.prog 88 #[.string s] w fun e w' => e = .returned (.int .i64 0) ∧ Below w.heap.size w w')) (hN2 : Hid (∀ w, Calls Try.prog 88 #[.string s2] w fun e w' => e = .returned (.int .i64 0) ∧ Below w.heap.size w w')) (hf2 : Hid (Instr.findNow .string (.string s2) [{ key := .string s, val := .bool true, born := 0 }] 0 = some none)) (hv : Hid (rngE vo 1 1000000 = 0)) (hm : Hid (rngE mo 1 400000 = 0)) (hv2 : Hid (rngE vo2 1 1000000 = 0)) (hm2 : Hid (rngE mo2 1 400000 = 0)) :
    Calls Try.prog 79 #[.slice (some ⟨b, 0, none⟩) 2 cap, .func (.func 78) #[] #[], .func (.func 80) #[] #[]] w fun e w' => e = .returned (.int .i64 0) ∧ Below w.heap.size w w' := by
  have h0 := @run_makeMap Try.prog
  have hmf : ∀ (fn : Fn) (first cap : Array Value) (w : World), (Instr.makeFunc fn first cap).run Try.prog w = .ok (.func fn first cap) w := fun _ _ _ _ => rfl
  go_enter Try.func79, Try.ntmps79
  go_wp2_with fail
  obtain ⟨u, hu⟩ : ∃ u, Hid ((((w.alloc (.cells #[.func (.func 78) #[] #[]] 144)).alloc (.cells #[.func (.func 80) #[] #[]] 146)).alloc (.map #[] 0)).alloc (.cells #[.map (some (w.heap.size + 1 + 1))] 150) = u) := ⟨_, Lib.hid rfl⟩
  have zu : u.heap.size = w.heap.size + 1 + 1 + 1 + 1 := by rw [← hu.out]; simp
  have hbu : Below w.heap.size w u := by rw [← hu.out]; (repeat (first | (with_reducible refine Below.drew ?_) | (with_reducible refine below_drewN ?_ _) | (with_reducible refine Below.alloc ?_ (by first | omega | (simp; done) | (simp; omega) | (simp at *; omega)) _) | (with_reducible refine Below.setCell ?_ (by first | omega | (simp; done) | (simp; omega) | (simp at *; omega)) _) | (with_reducible exact Below.refl _ _) | (with_reducible assumption) | (with_reducible refine Below.trans ?_ (Below.mono (by assumption) (by first | omega | (simp; done) | (simp; omega) | (simp at *; omega))))))
  have C : ∀ b i, b < w.heap.size → u.cell? ⟨b, i, none⟩ = w.cell? ⟨b, i, none⟩ := fun b i h => hbu.cell (p := ⟨b, i, none⟩) h
  have g1 : u.cell? ⟨w.heap.size, 0, none⟩ = some (.func (.func 78) #[] #[]) := by rw [← hu.out]; simp [go_sem, World.cell?_alloc_past]
  have g3 : u.cell? ⟨w.heap.size + 1, 0, none⟩ = some (.func (.func 80) #[] #[]) := by rw [← hu.out]; simp [go_sem, World.cell?_alloc_past]
  have g2 : u.cell? ⟨w.heap.size + 1 + 1 + 1, 0, none⟩ = some (.map (some (w.heap.size + 1 + 1))) := by rw [← hu.out]; simp [go_sem]
  have gm : u.heap[w.heap.size + 1 + 1]? = some (.map #[] 0) := by rw [← hu.out]; refine (Below.heap_alloc _ _ _ (by simp)).trans ?_; have := allocF_at ((w.alloc (.cells #[.func (.func 78) #[] #[]] 144)).alloc (.cells #[.func (.func 80) #[] #[]] 146)) (.map #[] 0); simpa using this
  rw [hu.out]
  refine (each2_MixVessel s s2 vo mo vo2 mo2 b cap w.heap.size (w.heap.size + 1 + 1 + 1) (w.heap.size + 1) (w.heap.size + 1 + 1) u ((C b 0 lb).trans a0) ((C b 1 lb).trans a1) ((C b 2 lb).trans a2) ((C b 3 lb).trans a3) ((C b 4 lb).trans a4) ((C b 5 lb).trans a5) g1 g2 g3 gm (by omega) (by omega) (by omega) (by omega) (by omega) (by omega) (by omega) (by omega) (by omega) hN hN2 hf2 hv hm hv2 hm2).mono ?_
  rintro e x1 ⟨rfl, hE⟩
  go_wp2
  go_ret
  exact ⟨rfl, hbu.trans (BelowE.below (x := w.heap.size + 1 + 1) ⟨hE.os, hE.tape, hE.output, hE.size, fun k hk hn => hE.block k (by omega) hn⟩ (by omega))⟩
theorem nameOf_MixSource (s : ByteArray) (gx gh ct am : Int) (w : World) : Calls Try.prog 74 #[.agg #[.string s, .int .i64 gx, .int .i64 gh, .int .i64 ct, .int .i64 am]] w fun e w' => e = .returned (.string s) ∧ Below w.heap.size w w' := by
  go_enter Try.func74, Try.ntmps74
  go_wp2
  go_ret
  exact ⟨rfl, (by (repeat (first | (with_reducible refine Below.drew ?_) | (with_reducible refine below_drewN ?_ _) | (with_reducible refine Below.alloc ?_ (by first | omega | (simp; done) | (simp; omega) | (simp at *; omega)) _) | (with_reducible refine Below.setCell ?_ (by first | omega | (simp; done) | (simp; omega) | (simp at *; omega)) _) | (with_reducible exact Below.refl _ _) | (with_reducible assumption) | (with_reducible refine Below.trans ?_ (Below.mono (by assumption) (by first | omega | (simp; done) | (simp; omega) | (simp at *; omega)))))))⟩
theorem errOf_MixSource (s : ByteArray) (gx gh ct am : Int) (w : World) (hg : Hid (gasE gx gh = 0)) (hc : Hid (rngE ct 0 1000 = 0)) (ha : Hid (rngE am 0 10000000 = 0)) : Calls Try.prog 76 #[.agg #[.string s, .int .i64 gx, .int .i64 gh, .int .i64 ct, .int .i64 am]] w fun e w' => e = .returned (.int .i64 0) ∧ Below w.heap.size w w' := by
  go_enter Try.func76, Try.ntmps76
  go_upto_region 1 with (fail)
  refine wp_region_held_drew (S := (fun w' => w'.cell? ⟨w.heap.size, 1, none⟩ = some (.int .i64 gx) ∧ w'.cell? ⟨w.heap.size, 2, none⟩ = some (.int .i64 gh) ∧ w'.cell? ⟨w.heap.size, 3, none⟩ = some (.int .i64 ct) ∧ w'.cell? ⟨w.heap.size, 4, none⟩ = some (.int .i64 am))) (by kernel_rfl) (by simp [go_sem, World.cell?_alloc_past, *]) (fun hHeld => ?_)
  refine tkH 0 ⟨some 3, _, _, _, _, _⟩ ?_ rfl ?_ (by assumption) ?_
  rotate_left
  · (intro w hSw; (try dsimp only at hSw); go_simp; all_goals with_reducible rfl)
  try simp only [Act.put, sA, sB, sC]
  refine tkH 1 ⟨some 4, _, _, _, _, _⟩ ?_ rfl ?_ (by assumption) ?_
  rotate_left
  · (intro w hSw; (try dsimp only at hSw); go_simp; all_goals with_reducible rfl)
  try simp only [Act.put, sA, sB, sC]
  refine tkH 3 ⟨some 6, _, _, _, _, _⟩ ?_ rfl ?_ (by assumption) ?_
  rotate_left
  · (intro w hSw; (try dsimp only at hSw); go_simp; all_goals with_reducible rfl)
  try simp only [Act.put, sA, sB, sC]
  refine tkH 4 ⟨some 7, _, _, _, _, _⟩ ?_ rfl ?_ (by assumption) ?_
  rotate_left
  · (intro w hSw; (try dsimp only at hSw); go_simp; all_goals with_reducible rfl)
  try simp only [Act.put, sA, sB, sC]
  refine tkH 6 ⟨some 9, _, _, _, _, _⟩ ?_ rfl ?_ (by assumption) ?_
  rotate_left
  · (intro w hSw; (try dsimp only at hSw); go_simp; all_goals with_reducible rfl)
  try simp only [Act.put, sA, sB, sC]
  refine tkH 7 ⟨some 10, _, _, _, _, _⟩ ?_ rfl ?_ (by assumption) ?_
  rotate_left
  · (intro w hSw; (try dsimp only at hSw); go_simp; all_goals with_reducible rfl)
  try simp only [Act.put, sA, sB, sC]
  refine wpAnyH_ready (rs := [2]) (by kernel_rfl) (by simp) ?_
  refine AllReadyH.cons rfl (fun K hK => ?_) AllReadyH.nil
  go_simp
  refine (CheckGas_x gx gh 0 _ hg).mono ?_
  rintro e xw1 ⟨rfl, hbx1⟩
  have zx1 := hbx1.size
  try simp at zx1
  obtain ⟨x1_0_1, x1_0_2, x1_0_3, x1_0_4⟩ : xw1.cell? ⟨w.heap.size, 1, none⟩ = some (.int .i64 gx) ∧ xw1.cell? ⟨w.heap.size, 2, none⟩ = some (.int .i64 gh) ∧ xw1.cell? ⟨w.heap.size, 3, none⟩ = some (.int .i64 ct) ∧ xw1.cell? ⟨w.heap.size, 4, none⟩ = some (.int .i64 am) := by refine ⟨?_, ?_, ?_, ?_⟩ <;> (rw [(bcell hbx1).1 _ _ (by first | (simp; done) | (simp; omega) | omega)]; simp [go_sem, World.cell?_alloc_past, *])
  obtain ⟨x1o0, x1n0⟩ : w.heap.size < xw1.heap.size ∧ xw1.heap.size ≠ w.heap.size := by refine ⟨?_, ?_⟩ <;> omega
  have hBx1 : Below w.heap.size w xw1 := (by (repeat (first | (with_reducible refine Below.drew ?_) | (with_reducible refine below_drewN ?_ _) | (with_reducible refine Below.alloc ?_ (by first | omega | (simp; done) | (simp; omega) | (simp at *; omega)) _) | (with_reducible refine Below.setCell ?_ (by first | omega | (simp; done) | (simp; omega) | (simp at *; omega)) _) | (with_reducible exact Below.refl _ _) | (with_reducible assumption) | (with_reducible refine Below.trans ?_ (Below.mono (by assumption) (by first | omega | (simp; done) | (simp; omega) | (simp at *; omega)))))))
  clear hbx1 
  go_wp2_with fail
  refine hK.out _ _ (by simp [go_sem, World.cell?_alloc_past, *]) (fun hHeld => ?_)
  clear hK K
  try simp only [Act.put, sA, sB, sC]
  refine wpAnyH_ready (rs := [5]) (by kernel_rfl) (by simp) ?_
  refine AllReadyH.cons rfl (fun K hK => ?_) AllReadyH.nil
  go_simp
  refine (cRange_any _ _ _ _).mono ?_
  rintro e wq ⟨rfl, rfl⟩
  go_wp2_with fail
  refine hK.out _ _ (by simp [go_sem, World.cell?_alloc_past, *]) (fun hHeld => ?_)
  clear hK K
  try simp only [Act.put, sA, sB, sC]
  refine wpAnyH_ready (rs := [8]) (by kernel_rfl) (by simp) ?_
  refine AllReadyH.cons rfl (fun K hK => ?_) AllReadyH.nil
  go_simp
  refine (cRange_any _ _ _ _).mono ?_
  rintro e wq ⟨rfl, rfl⟩
  go_wp2_with fail
  refine hK.out _ _ (by simp [go_sem, World.cell?_alloc_past, *]) (fun hHeld => ?_)
  clear hK K
  try simp only [Act.put, sA, sB, sC]
  refine wpAnyH_ready (rs := [9]) (by kernel_rfl) (by simp) ?_
  refine AllReadyH.cons rfl (fun K hK => ?_) AllReadyH.nil
  go_simp
  go_wp2_with fail
  refine hK.out _ _ (by simp [go_sem, World.cell?_alloc_past, *]) (fun hHeld => ?_)
  clear hK K
  try simp only [Act.put, sA, sB, sC]
  refine wpAnyH_ready (rs := [10]) (by kernel_rfl) (by simp) ?_
  refine AllReadyH.cons rfl (fun K hK => ?_) AllReadyH.nil
  go_simp
  refine (cF3x 0 (rngE ct 0 1000) (rngE am 0 10000000) 0 _ _ (Lib.hid (by rw [hc.out, ha.out]; rfl)) (by simp [go_sem]) (by simp [go_sem]) (by simp [go_sem])).mono ?_
  rintro e wq ⟨rfl, rfl⟩
  go_wp2_with fail
  refine hK.out _ _ (by simp [go_sem, World.cell?_alloc_past, *]) (fun hHeld => ?_)
  clear hK K
  try simp only [Act.put, sA, sB, sC]
  refine tkH 11 ⟨some 2, _, _, _, _, _⟩ ?_ rfl ?_ (by assumption) ?_
  rotate_left
  · (intro w hSw; (try dsimp only at hSw); go_simp; all_goals with_reducible rfl)
  try simp only [Act.put, sA, sB, sC]
  refine wpAnyH_done (by kernel_rfl) ?_ _
  go_wp2
  go_ret
  exact ⟨rfl, (by (repeat (first | (with_reducible refine Below.drew ?_) | (with_reducible refine below_drewN ?_ _) | (with_reducible refine Below.alloc ?_ (by first | omega | (simp; done) | (simp; omega) | (simp at *; omega)) _) | (with_reducible refine Below.setCell ?_ (by first | omega | (simp; done) | (simp; omega) | (simp at *; omega)) _) | (with_reducible exact Below.refl _ _) | (with_reducible assumption) | (with_reducible refine Below.trans ?_ (Below.mono (by assumption) (by first | omega | (simp; done) | (simp; omega) | (simp at *; omega)))))))⟩
set_option maxHeartbeats 1000000 in
theorem named1_MixSource (s : ByteArray) (gx gh ct am : Int) (p1 p2 p3 r n : Nat) (es : Array MapEntry) (w : World) (h1 : w.cell? ⟨p1, 0, none⟩ = some (.func (.func 74) #[] #[])) (h2 : w.cell? ⟨p2, 0, none⟩ = some (.map (some r))) (h3 : w.cell? ⟨p3, 0, none⟩ = some (.func (.func 76) #[] #[])) (hmap : w.heap[r]? = some (.map es n)) (l1 : p1 < w.heap.size) (l2 : p2 < w.heap.size) (l3 : p3 < w.heap.size) (lr : r < w.heap.size) (n2 : p2 ≠ r) (n3 : p3 ≠ r)
    (hN : Hid (∀ w, Calls Try.prog 88 #[.string s] w fun e w' => e = .returned (.int .i64 0) ∧ Below w.heap.size w w')) (hf : Hid (Instr.findNow .string (.string s) es.toList 0 = some none)) (hg : Hid (gasE gx gh = 0)) (hc : Hid (rngE ct 0 1000 = 0)) (ha : Hid (rngE am 0 10000000 = 0)) :
    Calls Try.prog 87 #[.agg #[.string s, .int .i64 gx, .int .i64 gh, .int .i64 ct, .int .i64 am], .pointer (some ⟨p1, 0, none⟩), .pointer (some ⟨p2, 0, none⟩), .pointer (some ⟨p3, 0, none⟩)] w (MapStep r s es n w) := by
  have HM := Lib.hid hmap
  have k1 : p1 ≠ w.heap.size := by omega
  have k2 : p2 ≠ w.heap.size := by omega
  have k3 : p3 ≠ w.heap.size := by omega
  clear hmap
  go_enter Try.func87, Try.ntmps87
  go_wp2_with fail
  refine (nameOf_MixSource s gx gh ct am _).mono ?_
  rintro e x1 ⟨rfl, hb1⟩
  have z1 := hb1.size
  try simp at z1
  have q1_1 : x1.cell? ⟨p1, 0, none⟩ = some (.func (.func 74) #[] #[]) := by rw [(bcell hb1).1 _ _ (by first | (simp; done) | (simp; omega) | omega)]; simp [go_sem, World.cell?_alloc_past, *]
  have q2_1 : x1.cell? ⟨p2, 0, none⟩ = some (.map (some r)) := by rw [(bcell hb1).1 _ _ (by first | (simp; done) | (simp; omega) | omega)]; simp [go_sem, World.cell?_alloc_past, *]
  have q3_1 : x1.cell? ⟨p3, 0, none⟩ = some (.func (.func 76) #[] #[]) := by rw [(bcell hb1).1 _ _ (by first | (simp; done) | (simp; omega) | omega)]; simp [go_sem, World.cell?_alloc_past, *]
  have e0_1 : x1.cell? ⟨w.heap.size, 0, none⟩ = some (.string s) := by rw [(bcell hb1).1 _ _ (by first | (simp; done) | (simp; omega) | omega)]; simp [go_sem, World.cell?_alloc_past, *]
  have e1_1 : x1.cell? ⟨w.heap.size, 1, none⟩ = some (.int .i64 gx) := by rw [(bcell hb1).1 _ _ (by first | (simp; done) | (simp; omega) | omega)]; simp [go_sem, World.cell?_alloc_past, *]
  have e2_1 : x1.cell? ⟨w.heap.size, 2, none⟩ = some (.int .i64 gh) := by rw [(bcell hb1).1 _ _ (by first | (simp; done) | (simp; omega) | omega)]; simp [go_sem, World.cell?_alloc_past, *]
  have e3_1 : x1.cell? ⟨w.heap.size, 3, none⟩ = some (.int .i64 ct) := by rw [(bcell hb1).1 _ _ (by first | (simp; done) | (simp; omega) | omega)]; simp [go_sem, World.cell?_alloc_past, *]
  have e4_1 : x1.cell? ⟨w.heap.size, 4, none⟩ = some (.int .i64 am) := by rw [(bcell hb1).1 _ _ (by first | (simp; done) | (simp; omega) | omega)]; simp [go_sem, World.cell?_alloc_past, *]
  have o1 : w.heap.size < x1.heap.size := by omega
  have lr1 : r < x1.heap.size := by omega
  have l31 : p3 < x1.heap.size := by omega
  have l21 : p2 < x1.heap.size := by omega
  have hB1 : Below w.heap.size w x1 := (by (repeat (first | (with_reducible refine Below.drew ?_) | (with_reducible refine below_drewN ?_ _) | (with_reducible refine Below.alloc ?_ (by first | omega | (simp; done) | (simp; omega) | (simp at *; omega)) _) | (with_reducible refine Below.setCell ?_ (by first | omega | (simp; done) | (simp; omega) | (simp at *; omega)) _) | (with_reducible exact Below.refl _ _) | (with_reducible assumption) | (with_reducible refine Below.trans ?_ (Below.mono (by assumption) (by first | omega | (simp; done) | (simp; omega) | (simp at *; omega)))))))
  clear hb1 h1 h2 h3
  go_wp2_with fail
  refine (hN.out _).mono ?_
  rintro e x2 ⟨rfl, hb2⟩
  have z2 := hb2.size
  try simp at z2
  have q1_2 : x2.cell? ⟨p1, 0, none⟩ = some (.func (.func 74) #[] #[]) := by rw [(bcell hb2).1 _ _ (by first | (simp; done) | (simp; omega) | omega)]; simp [go_sem, World.cell?_alloc_past, *]
  have q2_2 : x2.cell? ⟨p2, 0, none⟩ = some (.map (some r)) := by rw [(bcell hb2).1 _ _ (by first | (simp; done) | (simp; omega) | omega)]; simp [go_sem, World.cell?_alloc_past, *]
  have q3_2 : x2.cell? ⟨p3, 0, none⟩ = some (.func (.func 76) #[] #[]) := by rw [(bcell hb2).1 _ _ (by first | (simp; done) | (simp; omega) | omega)]; simp [go_sem, World.cell?_alloc_past, *]
  have e0_2 : x2.cell? ⟨w.heap.size, 0, none⟩ = some (.string s) := by rw [(bcell hb2).1 _ _ (by first | (simp; done) | (simp; omega) | omega)]; simp [go_sem, World.cell?_alloc_past, *]
  have e1_2 : x2.cell? ⟨w.heap.size, 1, none⟩ = some (.int .i64 gx) := by rw [(bcell hb2).1 _ _ (by first | (simp; done) | (simp; omega) | omega)]; simp [go_sem, World.cell?_alloc_past, *]
  have e2_2 : x2.cell? ⟨w.heap.size, 2, none⟩ = some (.int .i64 gh) := by rw [(bcell hb2).1 _ _ (by first | (simp; done) | (simp; omega) | omega)]; simp [go_sem, World.cell?_alloc_past, *]
  have e3_2 : x2.cell? ⟨w.heap.size, 3, none⟩ = some (.int .i64 ct) := by rw [(bcell hb2).1 _ _ (by first | (simp; done) | (simp; omega) | omega)]; simp [go_sem, World.cell?_alloc_past, *]
  have e4_2 : x2.cell? ⟨w.heap.size, 4, none⟩ = some (.int .i64 am) := by rw [(bcell hb2).1 _ _ (by first | (simp; done) | (simp; omega) | omega)]; simp [go_sem, World.cell?_alloc_past, *]
  have o2 : w.heap.size < x2.heap.size := by omega
  have lr2 : r < x2.heap.size := by omega
  have l32 : p3 < x2.heap.size := by omega
  have l22 : p2 < x2.heap.size := by omega
  have hB2 : Below w.heap.size w x2 := (by (repeat (first | (with_reducible refine Below.drew ?_) | (with_reducible refine below_drewN ?_ _) | (with_reducible refine Below.alloc ?_ (by first | omega | (simp; done) | (simp; omega) | (simp at *; omega)) _) | (with_reducible refine Below.setCell ?_ (by first | omega | (simp; done) | (simp; omega) | (simp at *; omega)) _) | (with_reducible exact Below.refl _ _) | (with_reducible assumption) | (with_reducible refine Below.trans ?_ (Below.mono (by assumption) (by first | omega | (simp; done) | (simp; omega) | (simp at *; omega)))))))
  clear hb2 q1_1 q2_1 q3_1 e0_1 e1_1 e2_1 e3_1 e4_1
  have hm2 : x2.heap[r]? = some (.map es n) := (hB2.block r lr).trans HM.out
  have hl := lookMB x2 r es n s hm2 hf.out
  have hu := updMB x2 r es n s (.bool true) hm2 hf.out
  have SE := BelowE.set r w.heap.size x2 (.map (es.push { key := .string s, val := .bool true, born := n }) (n + 1))
  have SE' := BelowE.set r x2.heap.size x2 (.map (es.push { key := .string s, val := .bool true, born := n }) (n + 1))
  have hs3 : (setBlock x2 r (.map (es.push { key := .string s, val := .bool true, born := n }) (n + 1))).heap[r]? = some (.map (es.push { key := .string s, val := .bool true, born := n }) (n + 1)) := setBlockF_eq x2 r _ lr2
  have hz3 : (setBlock x2 r (.map (es.push { key := .string s, val := .bool true, born := n }) (n + 1))).heap.size = x2.heap.size := setBlockF_size _ _ _
  have c3 := (SE'.cell (b := p3) (i := 0) l32 n3).trans q3_2
  have ce0 := (SE'.cell (b := w.heap.size) (i := 0) o2 (by omega)).trans e0_2
  have ce1 := (SE'.cell (b := w.heap.size) (i := 1) o2 (by omega)).trans e1_2
  have ce2 := (SE'.cell (b := w.heap.size) (i := 2) o2 (by omega)).trans e2_2
  have ce3 := (SE'.cell (b := w.heap.size) (i := 3) o2 (by omega)).trans e3_2
  have ce4 := (SE'.cell (b := w.heap.size) (i := 4) o2 (by omega)).trans e4_2
  generalize setBlock x2 r (.map (es.push { key := .string s, val := .bool true, born := n }) (n + 1)) = x3 at *
  have HS := Lib.hid hs3
  have HZ := Lib.hid hz3
  have HU := Lib.hid SE
  clear hs3 hz3 SE SE' hm2
  go_wp2_with fail
  refine (errOf_MixSource s gx gh ct am _ hg hc ha).mono ?_
  rintro e x4 ⟨rfl, hb4⟩
  go_wp2
  go_ret
  refine ⟨rfl, (hb4.block r (by rw [HZ.out]; exact lr2)).trans HS.out, ?_⟩
  exact ((BelowE.of hB2 (Nat.le_refl _)).trans HU.out).trans (BelowE.of hb4 (by rw [HZ.out]; omega))
set_option maxHeartbeats 1000000 in
theorem each2_MixSource (s s2 : ByteArray) (gx gh ct am gx2 gh2 ct2 am2 : Int) (b cap p1 p2 p3 r : Nat) (w : World) (a0 : w.cell? ⟨b, 0, none⟩ = some (.string s)) (a1 : w.cell? ⟨b, 1, none⟩ = some (.int .i64 gx)) (a2 : w.cell? ⟨b, 2, none⟩ = some (.int .i64 gh)) (a3 : w.cell? ⟨b, 3, none⟩ = some (.int .i64 ct)) (a4 : w.cell? ⟨b, 4, none⟩ = some (.int .i64 am)) (a5 : w.cell? ⟨b, 5, none⟩ = some (.string s2)) (a6 : w.cell? ⟨b, 6, none⟩ = some (.int .i64 gx2)) (a7 : w.cell? ⟨b, 7, none⟩ = some (.int .i64 gh2)) (a8 : w.cell? ⟨b, 8, none⟩ = some (.int .i64 ct2)) (a9 : w.cell? ⟨b, 9, none⟩ = some (.int .i64 am2)) (h1 : w.cell? ⟨p1, 0, none⟩ = some (.func (.func 74) #[] #[])) (h2 : w.cell? ⟨p2, 0, none⟩ = some (.map (some r))) (h3 : w.cell? ⟨p3, 0, none⟩ = some (.func (.func 76) #[] #[])) (hmap : w.heap[r]? = some (.map #[] 0)) (lb : b < w.heap.size) (l1 : p1 < w.heap.size) (l2 : p2 < w.heap.size) (l3 : p3 < w.heap.size) (lr : r < w.heap.size) (nb : b ≠ r) (n1 : p1 ≠ r) (n2 : p2 ≠ r) (n3 : p3 ≠ r)
    (hN : Hid (∀ w, Calls Try.prog 88 #[.string s] w fun e w' => e = .returned (.int .i64 0) ∧ Below w.heap.size w w')) (hN2 : Hid (∀ w, Calls Try.prog 88 #[.string s2] w fun e w' => e = .returned (.int .i64 0) ∧ Below w.heap.size w w')) (hf2 : Hid (Instr.findNow .string (.string s2) [{ key := .string s, val := .bool true, born := 0 }] 0 = some none)) (hg : Hid (gasE gx gh = 0)) (hc : Hid (rngE ct 0 1000 = 0)) (ha : Hid (rngE am 0 10000000 = 0)) (hg2 : Hid (gasE gx2 gh2 = 0)) (hc2 : Hid (rngE ct2 0 1000 = 0)) (ha2 : Hid (rngE am2 0 10000000 = 0)) :
    Calls Try.prog 86 #[.slice (some ⟨b, 0, none⟩) 2 cap, .func (.func 87) #[] #[.pointer (some ⟨p1, 0, none⟩), .pointer (some ⟨p2, 0, none⟩), .pointer (some ⟨p3, 0, none⟩)]] w fun e w' => e = .returned (.int .i64 0) ∧ BelowE r w.heap.size w w' := by
  have HM := Lib.hid hmap
  clear hmap
  have i0 : b ≠ w.heap.size := by omega
  have i1 : p1 ≠ w.heap.size := by omega
  have i2 : p2 ≠ w.heap.size := by omega
  have i3 : p3 ≠ w.heap.size := by omega
  have ir : r ≠ w.heap.size := by omega
  go_enter Try.func86, Try.ntmps86
  go_wp2
  refine wp_loop_rounds 3 ?_
  rw [rounds_succ]
  go_wp2_with fail
  obtain ⟨u1, hu1⟩ : ∃ u, Hid (w.alloc (.cells #[.string s, .int .i64 gx, .int .i64 gh, .int .i64 ct, .int .i64 am] 116) = u) := ⟨_, Lib.hid rfl⟩
  rw [hu1.out]
  have hbu : Below w.heap.size w u1 := by rw [← hu1.out]; exact (Below.refl _ _).alloc (Nat.le_refl _) _
  have zu : u1.heap.size = w.heap.size + 1 := by rw [← hu1.out]; simp
  have C1 : ∀ b i, b < w.heap.size → u1.cell? ⟨b, i, none⟩ = w.cell? ⟨b, i, none⟩ := fun b i h => hbu.cell (p := ⟨b, i, none⟩) h
  have HC1 := Lib.hid C1
  clear C1
  refine (named1_MixSource s gx gh ct am p1 p2 p3 r 0 #[] u1 ((HC1.out _ _ l1).trans h1) ((HC1.out _ _ l2).trans h2) ((HC1.out _ _ l3).trans h3) ((hbu.block r lr).trans HM.out) (by omega) (by omega) (by omega) (by omega) n2 n3 hN (Lib.hid rfl) hg hc ha).mono ?_
  rintro e x1 ⟨rfl, hm1, hE1⟩
  have zx := hE1.size
  have HM1 := Lib.hid hm1
  have C2 : ∀ b i, b < w.heap.size → b ≠ r → x1.cell? ⟨b, i, none⟩ = w.cell? ⟨b, i, none⟩ := fun b i h hn => (hE1.cell (by omega) hn).trans (HC1.out b i h)
  have d0 := (C2 b 0 lb nb).trans a0
  have d1 := (C2 b 1 lb nb).trans a1
  have d2 := (C2 b 2 lb nb).trans a2
  have d3 := (C2 b 3 lb nb).trans a3
  have d4 := (C2 b 4 lb nb).trans a4
  have d5 := (C2 b 5 lb nb).trans a5
  have d6 := (C2 b 6 lb nb).trans a6
  have d7 := (C2 b 7 lb nb).trans a7
  have d8 := (C2 b 8 lb nb).trans a8
  have d9 := (C2 b 9 lb nb).trans a9
  have g1 := (C2 p1 0 l1 n1).trans h1
  have g2 := (C2 p2 0 l2 n2).trans h2
  have g3 := (C2 p3 0 l3 n3).trans h3
  have hEw : BelowE r w.heap.size w x1 := (BelowE.of hbu (Nat.le_refl _)).trans ⟨hE1.os, hE1.tape, hE1.output, hE1.size, fun k hk hn => hE1.block k (by omega) hn⟩
  have jb : b < x1.heap.size := by omega
  have j1 : p1 < x1.heap.size := by omega
  have j2 : p2 < x1.heap.size := by omega
  have j3 : p3 < x1.heap.size := by omega
  have jr : r < x1.heap.size := by omega
  have i0 : b ≠ x1.heap.size := by omega
  have i1 : p1 ≠ x1.heap.size := by omega
  have i2 : p2 ≠ x1.heap.size := by omega
  have i3 : p3 ≠ x1.heap.size := by omega
  have ir : r ≠ x1.heap.size := by omega
  clear C2 HC1 hm1 hE1 hbu a0 a1 a2 a3 a4 a5 a6 a7 a8 a9 h1 h2 h3
  go_wp2_with fail
  rw [rounds_succ]
  go_wp2_with fail
  obtain ⟨u2, hu2⟩ : ∃ u, Hid (x1.alloc (.cells #[.string s2, .int .i64 gx2, .int .i64 gh2, .int .i64 ct2, .int .i64 am2] 116) = u) := ⟨_, Lib.hid rfl⟩
  rw [hu2.out]
  have hbu : Below x1.heap.size x1 u2 := by rw [← hu2.out]; exact (Below.refl _ _).alloc (Nat.le_refl _) _
  have zu2 : u2.heap.size = x1.heap.size + 1 := by rw [← hu2.out]; simp
  refine (named1_MixSource s2 gx2 gh2 ct2 am2 p1 p2 p3 r 1 _ u2 ((hbu.cell (p := ⟨p1, 0, none⟩) j1).trans g1) ((hbu.cell (p := ⟨p2, 0, none⟩) j2).trans g2) ((hbu.cell (p := ⟨p3, 0, none⟩) j3).trans g3) ((hbu.block r jr).trans HM1.out) (by omega) (by omega) (by omega) (by omega) n2 n3 hN2 (Lib.hid hf2.out) hg2 hc2 ha2).mono ?_
  rintro e x2 ⟨rfl, hm2, hE2⟩
  have hEx : BelowE r w.heap.size x1 x2 := (BelowE.of hbu (by omega)).trans ⟨hE2.os, hE2.tape, hE2.output, hE2.size, fun k hk hn => hE2.block k (by omega) hn⟩
  have HE := Lib.hid (hEw.trans hEx)
  clear hm2 hE2 hbu hEw hEx
  go_wp2_with fail
  rw [rounds_succ]
  go_wp2
  go_ret
  exact ⟨rfl, HE.out⟩
theorem named2_MixSource (s s2 : ByteArray) (gx gh ct am gx2 gh2 ct2 am2 : Int) (b cap : Nat) (w : World) (a0 : w.cell? ⟨b, 0, none⟩ = some (.string s)) (a1 : w.cell? ⟨b, 1, none⟩ = some (.int .i64 gx)) (a2 : w.cell? ⟨b, 2, none⟩ = some (.int .i64 gh)) (a3 : w.cell? ⟨b, 3, none⟩ = some (.int .i64 ct)) (a4 : w.cell? ⟨b, 4, none⟩ = some (.int .i64 am)) (a5 : w.cell? ⟨b, 5, none⟩ = some (.string s2)) (a6 : w.cell? ⟨b, 6, none⟩ = some (.int .i64 gx2)) (a7 : w.cell? ⟨b, 7, none⟩ = some (.int .i64 gh2)) (a8 : w.cell? ⟨b, 8, none⟩ = some (.int .i64 ct2)) (a9 : w.cell? ⟨b, 9, none⟩ = some (.int .i64 am2)) (lb : b < w.heap.size)
    (hN : Hid (∀ w, Calls Try.prog 88 #[.string s] w fun e w' => e = .returned (.int .i64 0) ∧ Below w.heap.size w w')) (hN2 : Hid (∀ w, Calls Try.prog 88 #[.string s2] w fun e w' => e = .returned (.int .i64 0) ∧ Below w.heap.size w w')) (hf2 : Hid (Instr.findNow .string (.string s2) [{ key := .string s, val := .bool true, born := 0 }] 0 = some none)) (hg : Hid (gasE gx gh = 0)) (hc : Hid (rngE ct 0 1000 = 0)) (ha : Hid (rngE am 0 10000000 = 0)) (hg2 : Hid (gasE gx2 gh2 = 0)) (hc2 : Hid (rngE ct2 0 1000 = 0)) (ha2 : Hid (rngE am2 0 10000000 = 0)) :
    Calls Try.prog 75 #[.slice (some ⟨b, 0, none⟩) 2 cap, .func (.func 74) #[] #[], .func (.func 76) #[] #[]] w fun e w' => e = .returned (.int .i64 0) ∧ Below w.heap.size w w' := by
  have h0 := @run_makeMap Try.prog
  have hmf : ∀ (fn : Fn) (first cap : Array Value) (w : World), (Instr.makeFunc fn first cap).run Try.prog w = .ok (.func fn first cap) w := fun _ _ _ _ => rfl
  go_enter Try.func75, Try.ntmps75
  go_wp2_with fail
  obtain ⟨u, hu⟩ : ∃ u, Hid ((((w.alloc (.cells #[.func (.func 74) #[] #[]] 140)).alloc (.cells #[.func (.func 76) #[] #[]] 142)).alloc (.map #[] 0)).alloc (.cells #[.map (some (w.heap.size + 1 + 1))] 150) = u) := ⟨_, Lib.hid rfl⟩
  have zu : u.heap.size = w.heap.size + 1 + 1 + 1 + 1 := by rw [← hu.out]; simp
  have hbu : Below w.heap.size w u := by rw [← hu.out]; (repeat (first | (with_reducible refine Below.drew ?_) | (with_reducible refine below_drewN ?_ _) | (with_reducible refine Below.alloc ?_ (by first | omega | (simp; done) | (simp; omega) | (simp at *; omega)) _) | (with_reducible refine Below.setCell ?_ (by first | omega | (simp; done) | (simp; omega) | (simp at *; omega)) _) | (with_reducible exact Below.refl _ _) | (with_reducible assumption) | (with_reducible refine Below.trans ?_ (Below.mono (by assumption) (by first | omega | (simp; done) | (simp; omega) | (simp at *; omega))))))
  have C : ∀ b i, b < w.heap.size → u.cell? ⟨b, i, none⟩ = w.cell? ⟨b, i, none⟩ := fun b i h => hbu.cell (p := ⟨b, i, none⟩) h
  have g1 : u.cell? ⟨w.heap.size, 0, none⟩ = some (.func (.func 74) #[] #[]) := by rw [← hu.out]; simp [go_sem, World.cell?_alloc_past]
  have g3 : u.cell? ⟨w.heap.size + 1, 0, none⟩ = some (.func (.func 76) #[] #[]) := by rw [← hu.out]; simp [go_sem, World.cell?_alloc_past]
  have g2 : u.cell? ⟨w.heap.size + 1 + 1 + 1, 0, none⟩ = some (.map (some (w.heap.size + 1 + 1))) := by rw [← hu.out]; simp [go_sem]
  have gm : u.heap[w.heap.size + 1 + 1]? = some (.map #[] 0) := by rw [← hu.out]; refine (Below.heap_alloc _ _ _ (by simp)).trans ?_; have := allocF_at ((w.alloc (.cells #[.func (.func 74) #[] #[]] 140)).alloc (.cells #[.func (.func 76) #[] #[]] 142)) (.map #[] 0); simpa using this
  rw [hu.out]
  refine (each2_MixSource s s2 gx gh ct am gx2 gh2 ct2 am2 b cap w.heap.size (w.heap.size + 1 + 1 + 1) (w.heap.size + 1) (w.heap.size + 1 + 1) u ((C b 0 lb).trans a0) ((C b 1 lb).trans a1) ((C b 2 lb).trans a2) ((C b 3 lb).trans a3) ((C b 4 lb).trans a4) ((C b 5 lb).trans a5) ((C b 6 lb).trans a6) ((C b 7 lb).trans a7) ((C b 8 lb).trans a8) ((C b 9 lb).trans a9) g1 g2 g3 gm (by omega) (by omega) (by omega) (by omega) (by omega) (by omega) (by omega) (by omega) (by omega) hN hN2 hf2 hg hc ha hg2 hc2 ha2).mono ?_
  rintro e x1 ⟨rfl, hE⟩
  go_wp2
  go_ret
  exact ⟨rfl, hbu.trans (BelowE.below (x := w.heap.size + 1 + 1) ⟨hE.os, hE.tape, hE.output, hE.size, fun k hk hn => hE.block k (by omega) hn⟩ (by omega))⟩
end Go.Proofs.Ytdcbepagagiiiaa
