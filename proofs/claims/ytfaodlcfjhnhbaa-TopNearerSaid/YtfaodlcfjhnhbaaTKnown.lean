/- The decays that a course keeps: what (course).decays and the function that it hands back return, for a table of one compartment and steps of 300 seconds. -/
import Derived.Test.YtfaodlcfjhnhbaaTOne
import Derived.Test.YtfaodlcfjhnhbaaMMarks
import Derived.Maps.RangeRun
import Derived.ChangeMaps4
import Derived.Outline
namespace Go.Proofs.Ytfaodlcfjhnhbaa
open Go.ChangeShapes Go.WideShapes Go.ChangeAt Go.RowKit
open Go.ChangeMaps (setBlock)
set_option linter.unusedVariables false
set_option linter.unusedSimpArgs false

theorem undM (w : World) : (underlying 126).run Try.prog w = .ok (.map 3 78) w := by kernel_rfl
theorem ckI (b : Bool) (w : World) : (Instr.checkKey b 10000 3 (.int .i64 300)).run Try.prog w = .ok () w := by kernel_rfl
theorem fkN (w : World) : (Instr.findKey 3 (.int .i64 300) []).run Try.prog w = .ok none w := by kernel_rfl
/-- The decays of 300 seconds, as the map keeps them. -/
def e300 (v : Value) : MapEntry := { key := .int .i64 300, val := v, born := 0 }
theorem fkS (v : Value) (w : World) : (Instr.findKey 3 (.int .i64 300) [e300 v]).run Try.prog w = .ok (some (0, v)) w := by kernel_rfl
theorem zSl (w : World) : (zeroValue 78).run Try.prog w = .ok (.slice none 0 0) w := by kernel_rfl
theorem lkN (w : World) (r : Nat) (hb : w.heap[r]? = some (.map #[] 0)) :
    (Instr.lookup 126 (.map (some r)) (.int .i64 300) false).run Try.prog w = .ok (.slice none 0 0) w := by
  simp only [Instr.lookup, Sem.run_bind, undM, Result.andThen, getObj, Sem.run, hb, ckI]
  simp [fkN, zSl, Result.andThen]
theorem lkS (w : World) (r : Nat) (v : Value) (hb : w.heap[r]? = some (.map #[e300 v] 1)) :
    (Instr.lookup 126 (.map (some r)) (.int .i64 300) false).run Try.prog w = .ok v w := by
  simp only [Instr.lookup, Sem.run_bind, undM, Result.andThen, getObj, Sem.run, hb, ckI]
  simp [fkS, Result.andThen]
theorem upN (w : World) (r : Nat) (v : Value) (hb : w.heap[r]? = some (.map #[] 0)) :
    (Instr.mapUpdate 126 (.map (some r)) (.int .i64 300) v).run Try.prog w = .ok () (setBlock w r (.map #[e300 v] 1)) := by
  simp only [Instr.mapUpdate, Sem.run_bind, undM, Result.andThen, getObj, Sem.run, hb, ckI]
  simp [Sem.run, fkN, setObj, hb, setBlock, e300]
theorem alloc_at0 (w : World) (o : Obj) : (w.alloc o).heap[w.heap.size]? = some o := by
  show (w.heap.push o)[w.heap.size]? = some o
  simp
theorem setBlock_at (w : World) (r : Nat) (o : Obj) (h : r < w.heap.size) : (setBlock w r o).heap[r]? = some o := by
  unfold setBlock; simp [h]
theorem setBlock_ne (w : World) (r k : Nat) (o : Obj) (h : k ≠ r) : (setBlock w r o).heap[k]? = w.heap[k]? := by
  unfold setBlock; simp [Array.getElem?_setIfInBounds_ne (Ne.symm h)]
theorem setBlock_cell (w : World) (r b i : Nat) (o : Obj) (h : b ≠ r) : (setBlock w r o).cell? ⟨b, i, none⟩ = w.cell? ⟨b, i, none⟩ :=
  World.cell?_of_block (a := ⟨b, i, none⟩) (setBlock_ne w r b o h)
theorem setBlock_frozen (w : World) (r b i : Nat) (o : Obj) (h : b ≠ r) : (setBlock w r o).frozen? ⟨b, i, none⟩ = w.frozen? ⟨b, i, none⟩ :=
  World.frozen?_of_block (a := ⟨b, i, none⟩) (setBlock_ne w r b o h)
theorem setBlock_size (w : World) (r : Nat) (o : Obj) : (setBlock w r o).heap.size = w.heap.size := by unfold setBlock; simp
theorem map_ne_cell {w : World} {b i r : Nat} {v : Value} {es : Array MapEntry} {c : Nat} (h : w.cell? ⟨b, i, none⟩ = some v) (hm : w.heap[r]? = some (.map es c)) : b ≠ r := by
  intro e; subst e
  unfold World.cell? at h
  simp [hm] at h
theorem eqN (w : World) : (binOp .eql 78 (.slice none 0 0) (.slice none 0 0)).run Try.prog w = .ok (.bool true) w := by kernel_rfl
theorem eqS (b : Nat) (w : World) : (binOp .eql 78 (.slice (some ⟨b, 0, none⟩) 1 1) (.slice none 0 0)).run Try.prog w = .ok (.bool false) w := by kernel_rfl
/-- The decays are worked out, and kept. -/
def Kept1 (w : World) (bm : Nat) (x0 x1 x2 x3 : Int) (e : Ending) (w' : World) : Prop := ∃ b W2, e = .returned (.slice (some ⟨b, 0, none⟩) 1 1) ∧ w.heap.size ≤ b ∧ b < W2.heap.size ∧ W2.cell? ⟨b, 0, none⟩ = some (.int .i64 x0) ∧ W2.cell? ⟨b, 1, none⟩ = some (.int .i64 x1) ∧ W2.cell? ⟨b, 2, none⟩ = some (.int .i64 x2) ∧ W2.cell? ⟨b, 3, none⟩ = some (.int .i64 x3) ∧ Below w.heap.size w W2 ∧ w' = setBlock W2 bm (.map #[e300 (.slice (some ⟨b, 0, none⟩) 1 1)] 1)
set_option maxRecDepth 100000 in
set_option maxHeartbeats 2000000 in
theorem decays1_first (n h c d : Int) (b4 b1 b3 bm tb to cap L b cap' : Nat) (w : World) (n0 : 1 ≤ n) (n1 : n ≤ 100000) (h0 : 1 ≤ h) (h1 : h ≤ 100000) (hL0 : 1 ≤ L) (hL : L ≤ 40) (htb : tb < w.heap.size) (hlt : b < w.heap.size) (hcap : L + 1 ≤ cap') (hcap2 : cap' ≤ maxLen) (hR : RtAt w b L)
    (g0 : w.cell? ⟨tb, to, none⟩ = some (.int .i64 n)) (g1 : w.cell? ⟨tb, to + 1, none⟩ = some (.int .i64 h)) (g2 : w.cell? ⟨tb, to + 2, none⟩ = some (.int .i64 c)) (g3 : w.cell? ⟨tb, to + 3, none⟩ = some (.int .i64 d))
    (m4 : w.cell? ⟨b4, 0, none⟩ = some (.map (some bm))) (hm : w.heap[bm]? = some (.map #[] 0)) (m1 : w.cell? ⟨b1, 5, none⟩ = some (.slice (some ⟨tb, to, none⟩) 1 cap)) (m3 : w.cell? ⟨b3, 0, none⟩ = some (.slice (some ⟨b, 0, none⟩) (L + 1) cap')) :
    Calls Try.prog 78 #[.int .i64 300, .pointer (some ⟨b4, 0, none⟩), .pointer (some ⟨b1, 0, none⟩), .pointer (some ⟨b3, 0, none⟩)] w (Kept1 w bm (decL 300 n L) (decH 300 n L) (decL 300 h L) (decH 300 h L)) := by
  have HR := Lib.hid hR
  have HM := Lib.hid hm
  have hlk := lkN w bm hm
  have hen := eqN
  have HC2 := Lib.hid hcap2
  have l4 : b4 < w.heap.size := by simpa using World.block_lt_of_cell? _ _ m4
  have l1 : b1 < w.heap.size := by simpa using World.block_lt_of_cell? _ _ m1
  have l3 : b3 < w.heap.size := by simpa using World.block_lt_of_cell? _ _ m3
  have HN4 := Lib.hid (map_ne_cell m4 hm)
  clear hR hm hcap2
  go_enter Try.func78, Try.ntmps78
  go_wp2
  refine wp_region_Z (S := (fun w' => w'.cell? ⟨b4, 0, none⟩ = some (.map (some bm)) ∧ w'.cell? ⟨b1, 5, none⟩ = some (.slice (some ⟨tb, to, none⟩) 1 cap) ∧ w'.cell? ⟨b3, 0, none⟩ = some (.slice (some ⟨b, 0, none⟩) (L + 1) cap'))) 7 (by kernel_rfl) (by kernel_rfl) (by kernel_rfl) (by simp [go_sem, World.cell?_alloc_past, *]) (fun hHeld => ?_)
  refine wpAnyZ_take (i := 0) (oi := ⟨some 10, _, _, _, _, _⟩) (v := ?_) (by kernel_rfl) (by kernel_rfl) rfl rfl (by kernel_rfl) (by kernel_rfl) (by kernel_rfl) (fun _ _ _ h => h) (Or.inl ⟨by kernel_rfl, ?_⟩) (by assumption) ?_
  rotate_left
  · (intro w hSw; (try dsimp only at hSw); go_simp; all_goals with_reducible rfl)
  try simp only [Act.put, List.setIfInBounds_toArray, List.set_cons_zero, List.set_cons_succ]
  refine wpAnyZ_take (i := 1) (oi := ⟨some 11, _, _, _, _, _⟩) (v := ?_) (by kernel_rfl) (by kernel_rfl) rfl rfl (by kernel_rfl) (by kernel_rfl) (by kernel_rfl) (fun _ _ _ h => h) (Or.inl ⟨by kernel_rfl, ?_⟩) (by assumption) ?_
  rotate_left
  · (intro w hSw; (try dsimp only at hSw); go_simp; all_goals with_reducible rfl)
  try simp only [Act.put, List.setIfInBounds_toArray, List.set_cons_zero, List.set_cons_succ]
  refine wpAnyZ_take (i := 2) (oi := ⟨some 12, _, _, _, _, _⟩) (v := ?_) (by kernel_rfl) (by kernel_rfl) rfl rfl (by kernel_rfl) (by kernel_rfl) (by kernel_rfl) (fun _ _ _ h => h) (Or.inl ⟨by kernel_rfl, ?_⟩) (by assumption) ?_
  rotate_left
  · (intro w hSw; (try dsimp only at hSw); go_simp; all_goals with_reducible rfl)
  try simp only [Act.put, List.setIfInBounds_toArray, List.set_cons_zero, List.set_cons_succ]
  refine wpAnyZ_take (i := 3) (oi := ⟨some 13, _, _, _, _, _⟩) (v := ?_) (by kernel_rfl) (by kernel_rfl) rfl rfl (by kernel_rfl) (by kernel_rfl) (by kernel_rfl) (fun _ _ _ h => h) (Or.inl ⟨by kernel_rfl, ?_⟩) (by assumption) ?_
  rotate_left
  · (intro w hSw; (try dsimp only at hSw); go_simp; all_goals with_reducible rfl)
  try simp only [Act.put, List.setIfInBounds_toArray, List.set_cons_zero, List.set_cons_succ]
  refine wpAnyZ_take (i := 4) (oi := ⟨some 14, _, _, _, _, _⟩) (v := ?_) (by kernel_rfl) (by kernel_rfl) rfl rfl (by kernel_rfl) (by kernel_rfl) (by kernel_rfl) (fun _ _ _ h => h) (Or.inl ⟨by kernel_rfl, ?_⟩) (by assumption) ?_
  rotate_left
  · (intro w hSw; (try dsimp only at hSw); go_simp; all_goals with_reducible rfl)
  try simp only [Act.put, List.setIfInBounds_toArray, List.set_cons_zero, List.set_cons_succ]
  refine wpAnyZ_take (i := 5) (oi := ⟨some 15, _, _, _, _, _⟩) (v := ?_) (by kernel_rfl) (by kernel_rfl) rfl rfl (by kernel_rfl) (by kernel_rfl) (by kernel_rfl) (fun _ _ _ h => h) (Or.inl ⟨by kernel_rfl, ?_⟩) (by assumption) ?_
  rotate_left
  · (intro w hSw; (try dsimp only at hSw); go_simp; all_goals with_reducible rfl)
  try simp only [Act.put, List.setIfInBounds_toArray, List.set_cons_zero, List.set_cons_succ]
  refine wpAnyZ_call (q := 6) (by kernel_rfl) rfl rfl (fun K hK => ?_)
  go_simp
  refine (decaysOf_one n h c d 300 tb to cap L b cap' w.drew (by omega) (by omega) n0 n1 h0 h1 hL0 hL htb hlt hcap HC2.out (HR.out.below (n := w.heap.size) (by (repeat (first | (with_reducible refine Below.drew ?_) | (with_reducible refine below_drewN ?_ _) | (with_reducible refine Below.alloc ?_ (by first | omega | (simp; done) | (simp; omega) | (simp at *; omega)) _) | (with_reducible refine Below.setCell ?_ (by first | omega | (simp; done) | (simp; omega) | (simp at *; omega)) _) | (with_reducible exact Below.refl _ _) | (with_reducible assumption) | (with_reducible refine Below.trans ?_ (Below.mono (by assumption) (by first | omega | (simp; done) | (simp; omega) | (simp at *; omega))))))) hlt) g0 g1 g2 g3).mono ?_
  rintro e v1 ⟨bb, rfl, hb1, hb2, y0, y1, y2, y3, hbw⟩
  have z1 := hbw.size
  try simp at z1
  try simp at hb1
  try simp only [World.drew_heap] at hbw
  have q4 : v1.cell? ⟨b4, 0, none⟩ = some (.map (some bm)) := by rw [(bcell hbw).1 _ _ (by first | (simp; done) | (simp; omega) | omega)]; simp [go_sem, *]
  have q1 : v1.cell? ⟨b1, 5, none⟩ = some (.slice (some ⟨tb, to, none⟩) 1 cap) := by rw [(bcell hbw).1 _ _ (by first | (simp; done) | (simp; omega) | omega)]; simp [go_sem, *]
  have q3 : v1.cell? ⟨b3, 0, none⟩ = some (.slice (some ⟨b, 0, none⟩) (L + 1) cap') := by rw [(bcell hbw).1 _ _ (by first | (simp; done) | (simp; omega) | omega)]; simp [go_sem, *]
  have lm : bm < w.heap.size := (Array.getElem?_eq_some_iff.1 HM.out).1
  have HB2 : Below w.heap.size w v1 := (by (repeat (first | (with_reducible refine Below.drew ?_) | (with_reducible refine below_drewN ?_ _) | (with_reducible refine Below.alloc ?_ (by first | omega | (simp; done) | (simp; omega) | (simp at *; omega)) _) | (with_reducible refine Below.setCell ?_ (by first | omega | (simp; done) | (simp; omega) | (simp at *; omega)) _) | (with_reducible exact Below.refl _ _) | (with_reducible assumption) | (with_reducible refine Below.trans ?_ (Below.mono (by assumption) (by first | omega | (simp; done) | (simp; omega) | (simp at *; omega)))))))
  have hm1 : v1.heap[bm]? = some (.map #[] 0) := (HB2.block bm lm).trans HM.out
  have lm1 : bm < v1.heap.size := by omega
  obtain ⟨W9, hW9⟩ : ∃ W, Hid (setBlock v1 bm (.map #[e300 (.slice (some ⟨bb, 0, none⟩) 1 1)] 1) = W) := ⟨_, rfl⟩
  have up := upN v1 bm (.slice (some ⟨bb, 0, none⟩) 1 1) hm1
  have lk := lkS (setBlock v1 bm (.map #[e300 (.slice (some ⟨bb, 0, none⟩) 1 1)] 1)) bm (.slice (some ⟨bb, 0, none⟩) 1 1) (setBlock_at _ _ _ lm1)
  have cc := (setBlock_cell v1 bm b4 0 (.map #[e300 (.slice (some ⟨bb, 0, none⟩) 1 1)] 1) HN4.out).trans q4
  rw [hW9.out] at up lk cc
  have HQ := Lib.hid (And.intro hb1 (And.intro hb2 (And.intro y0 (And.intro y1 (And.intro y2 y3)))))
  clear hbw hm1 y0 y1 y2 y3 hb1 hb2 hlk lm lm1
  go_wp2_with fail
  refine hK.out _ _ (by simp [go_sem, World.cell?_alloc_past, *]) (fun hHeld => ?_)
  clear hK K
  try simp only [Act.put, List.setIfInBounds_toArray, List.set_cons_zero, List.set_cons_succ]
  refine wpAnyZ_last (by kernel_rfl) rfl (fun K hK => ?_)
  go_simp
  go_wp2_with fail
  refine hK.out _ _ ?_
  clear hK K
  try simp only [Act.put, List.setIfInBounds_toArray, List.set_cons_zero, List.set_cons_succ]
  clear hHeld q4 q1 q3 m4 m1 m3 up
  go_wp2
  go_ret
  obtain ⟨r1, r2, r3, r4, r5, r6⟩ := HQ.out
  exact ⟨bb, v1, rfl, r1, r2, r3, r4, r5, r6, HB2, hW9.out.symm⟩
set_option maxRecDepth 100000 in
set_option maxHeartbeats 1000000 in
theorem decays1_again (b4 b1 b3 bm bb : Nat) (w : World)
    (m4 : w.cell? ⟨b4, 0, none⟩ = some (.map (some bm))) (hm : w.heap[bm]? = some (.map #[e300 (.slice (some ⟨bb, 0, none⟩) 1 1)] 1)) :
    Calls Try.prog 78 #[.int .i64 300, .pointer (some ⟨b4, 0, none⟩), .pointer (some ⟨b1, 0, none⟩), .pointer (some ⟨b3, 0, none⟩)] w fun e w' => e = .returned (.slice (some ⟨bb, 0, none⟩) 1 1) ∧ w = w' := by
  have hlk := lkS w bm _ hm
  have hen := eqS bb
  clear hm
  go_enter Try.func78, Try.ntmps78
  go_wp2
  go_ret
  exact ⟨rfl, rfl⟩
/-- The function that hands back decays, its roots, and its map, which is empty. -/
def Made (w : World) (A : Option Addr) (len cap L : Nat) (e : Ending) (w' : World) : Prop := ∃ b3 rb cap', e = .returned (.func (.func 78) #[] #[.pointer (some ⟨b3 + 1 + 1, 0, none⟩), .pointer (some ⟨w.heap.size, 0, none⟩), .pointer (some ⟨b3, 0, none⟩)]) ∧ w.heap.size < b3 ∧ b3 + 1 + 1 < w'.heap.size ∧ w'.cell? ⟨w.heap.size, 5, none⟩ = some (.slice A len cap) ∧ w'.cell? ⟨b3, 0, none⟩ = some (.slice (some ⟨rb, 0, none⟩) (L + 1) cap') ∧ w'.cell? ⟨b3 + 1 + 1, 0, none⟩ = some (.map (some (b3 + 1))) ∧ w'.heap[b3 + 1]? = some (.map #[] 0) ∧ rb < b3 ∧ w.heap.size ≤ rb ∧ L + 1 ≤ cap' ∧ cap' ≤ maxLen ∧ RtAt w' rb L ∧ Below w.heap.size w w'
set_option maxHeartbeats 1000000 in
theorem decays_any (f t s o h : Int) (A : Option Addr) (len cap n : Nat) (w : World) (hn : n ≤ 6) :
    Calls Try.prog 62 #[.agg #[.int .i64 f, .int .i64 t, .int .i64 s, .int .i64 o, .int .i64 h, .slice A len cap, .int .i64 n]] w (Made w A len cap (8 + 2 * n)) := by
  have hmm := @run_makeMap Try.prog
  go_enter Try.func62, Try.ntmps62
  go_wp2_with fail
  have hRT := rootsTo_any (8 + 2 * n) (w.alloc (.cells #[.int .i64 f, .int .i64 t, .int .i64 s, .int .i64 o, .int .i64 h, .slice A len cap, .int .i64 n] 62)) (by omega)
  simp only [Int.natCast_add, Int.natCast_mul] at hRT
  refine hRT.mono ?_
  rintro e w1 ⟨v, rfl, hR, hbw1⟩
  clear hRT
  obtain ⟨rb, cap', rfl, lt, ge, hc1, hc2, hcell⟩ := hR
  have HR : Hid (RtAt w1 rb (8 + 2 * n)) := hcell
  have HC2 := Lib.hid hc2
  have z1 := hbw1.size
  try simp at z1
  try simp at ge
  have c5 : w1.cell? ⟨w.heap.size, 5, none⟩ = some (.slice A len cap) := by rw [(bcell hbw1).1 _ _ (by simp)]; simp [go_sem]
  have hB1 : Below w.heap.size w w1 := (by (repeat (first | (with_reducible refine Below.drew ?_) | (with_reducible refine below_drewN ?_ _) | (with_reducible refine Below.alloc ?_ (by first | omega | (simp; done) | (simp; omega) | (simp at *; omega)) _) | (with_reducible refine Below.setCell ?_ (by first | omega | (simp; done) | (simp; omega) | (simp at *; omega)) _) | (with_reducible exact Below.refl _ _) | (with_reducible assumption) | (with_reducible refine Below.trans ?_ (Below.mono (by assumption) (by first | omega | (simp; done) | (simp; omega) | (simp at *; omega)))))))
  clear hcell hbw1 hc2
  go_wp2
  go_ret
  have o1 : w.heap.size < w1.heap.size := by omega
  have o2 : w.heap.size < w1.heap.size + 1 := by omega
  have o3 : w.heap.size < w1.heap.size + 1 + 1 := by omega
  refine ⟨w1.heap.size, rb, cap', rfl, by omega, by simp, ?_, ?_, ?_, ?_, by omega, by omega, by omega, HC2.out, ?_, (by (repeat (first | (with_reducible refine Below.drew ?_) | (with_reducible refine below_drewN ?_ _) | (with_reducible refine Below.alloc ?_ (by first | omega | (simp; done) | (simp; omega) | (simp at *; omega)) _) | (with_reducible refine Below.setCell ?_ (by first | omega | (simp; done) | (simp; omega) | (simp at *; omega)) _) | (with_reducible exact Below.refl _ _) | (with_reducible assumption) | (with_reducible refine Below.trans ?_ (Below.mono (by assumption) (by first | omega | (simp; done) | (simp; omega) | (simp at *; omega)))))))⟩
  · (try simp [go_sem, World.cell?_alloc_past, *])
  · (try simp [go_sem, World.cell?_alloc_past])
  · (try simp [go_sem, World.cell?_alloc_past])
  · have hb : Below (w1.heap.size + 1 + 1) (((w1.alloc (.cells #[.slice (some ⟨rb, 0, none⟩) (8 + 2 * n + 1) cap'] 80)).alloc (.map #[] 0))) ((((w1.alloc (.cells #[.slice (some ⟨rb, 0, none⟩) (8 + 2 * n + 1) cap'] 80)).alloc (.map #[] 0))).alloc (.cells #[.map (some (w1.heap.size + 1))] 126)) := (Below.refl _ _).alloc (by simp) _
    have := alloc_at0 (w1.alloc (.cells #[.slice (some ⟨rb, 0, none⟩) (8 + 2 * n + 1) cap'] 80)) (.map #[] 0)
    rw [World.size_alloc] at this
    exact (hb.block (w1.heap.size + 1) (by omega)).trans this
  · exact HR.out.below (n := w1.heap.size) (by (repeat (first | (with_reducible refine Below.drew ?_) | (with_reducible refine below_drewN ?_ _) | (with_reducible refine Below.alloc ?_ (by first | omega | (simp; done) | (simp; omega) | (simp at *; omega)) _) | (with_reducible refine Below.setCell ?_ (by first | omega | (simp; done) | (simp; omega) | (simp at *; omega)) _) | (with_reducible exact Below.refl _ _) | (with_reducible assumption) | (with_reducible refine Below.trans ?_ (Below.mono (by assumption) (by first | omega | (simp; done) | (simp; omega) | (simp at *; omega))))))) lt
end Go.Proofs.Ytfaodlcfjhnhbaa
