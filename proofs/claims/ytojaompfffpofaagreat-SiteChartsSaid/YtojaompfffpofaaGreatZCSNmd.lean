import Derived.Test.YtojaompfffpofaaGreatZCSName
import Derived.Maps.RangeRun
import Derived.ChangeMaps4
import Derived.MapKept
import Derived.Lib.Strings
import Derived.Outline
namespace Go.Proofs.YtojaompfffpofaaGreat
open Go.ChangeShapes Go.WideShapes Go.ChangeAt Go.RowKit Go.MapKept
open Go.ChangeMaps (setBlock)
set_option linter.unusedVariables false
set_option linter.unusedSimpArgs false
attribute [local go_sem ↓] Go.wp_at_zero Go.wp_at_succ
theorem run_store_fn (P : Program) (w : World) (a : Addr) (m : Mode) (f : Fn) (x y : Array Value) : (store a (.func f x y) m).run P w = stored P w a (.func f x y) m := run_store P w a _ m rfl
attribute [local go_sem] run_store_fn
theorem setBlockF_ne (w : World) (r k : Nat) (o : Obj) (h : k ≠ r) : (setBlock w r o).heap[k]? = w.heap[k]? := by
  unfold setBlock
  exact Array.getElem?_setIfInBounds_ne (Ne.symm h)
theorem setBlockF_eq (w : World) (r : Nat) (o : Obj) (h : r < w.heap.size) : (setBlock w r o).heap[r]? = some o := by
  unfold setBlock
  exact Array.getElem?_setIfInBounds_self_of_lt h
theorem setBlockF_size (w : World) (r : Nat) (o : Obj) : (setBlock w r o).heap.size = w.heap.size := by unfold setBlock; simp
theorem allocF_at (w : World) (o : Obj) : (w.alloc o).heap[w.heap.size]? = some o := by
  show (w.heap.push o)[w.heap.size]? = some o
  simp
/-- All blocks below N are as they were, but one. -/
structure BelowE (x N : Nat) (w w' : World) : Prop where
  os : w'.os = w.os
  tape : w'.tape = w.tape
  output : w'.output = w.output
  size : w.heap.size ≤ w'.heap.size
  block : ∀ k, k < N → k ≠ x → w'.heap[k]? = w.heap[k]?
theorem BelowE.trans {x N : Nat} {a b c : World} (h : BelowE x N a b) (k : BelowE x N b c) : BelowE x N a c :=
  ⟨k.os.trans h.os, k.tape.trans h.tape, k.output.trans h.output, Nat.le_trans h.size k.size, fun i hi h1 => (k.block i hi h1).trans (h.block i hi h1)⟩
theorem BelowE.of {x N n : Nat} {a b : World} (h : Below n a b) (hn : N ≤ n) : BelowE x N a b :=
  ⟨h.os, h.tape, h.output, h.size, fun i hi _ => h.block i (Nat.lt_of_lt_of_le hi hn)⟩
theorem BelowE.set (x N : Nat) (w : World) (o : Obj) : BelowE x N w (setBlock w x o) :=
  ⟨rfl, rfl, rfl, by rw [setBlockF_size]; exact Nat.le_refl _, fun k _ h => setBlockF_ne w x k o h⟩
theorem BelowE.cell {x N : Nat} {w w' : World} (h : BelowE x N w w') {b i : Nat} (hb : b < N) (h1 : b ≠ x) : w'.cell? ⟨b, i, none⟩ = w.cell? ⟨b, i, none⟩ :=
  World.cell?_of_block (a := ⟨b, i, none⟩) (h.block b hb h1)
theorem BelowE.frozen {x N : Nat} {w w' : World} (h : BelowE x N w w') {b i : Nat} (hb : b < N) (h1 : b ≠ x) : w'.frozen? ⟨b, i, none⟩ = w.frozen? ⟨b, i, none⟩ :=
  World.frozen?_of_block (a := ⟨b, i, none⟩) (h.block b hb h1)
/-- Nothing that was there before has changed, where the one block is new. -/
theorem BelowE.below {x N : Nat} {w w' : World} (h : BelowE x N w w') (hx : N ≤ x) : Below N w w' :=
  ⟨h.os, h.tape, h.output, h.size, fun i hi => h.block i hi (by omega)⟩
theorem undMB (w : World) : (underlying 182).run Tryz.prog w = .ok (.map 9 4) w := by kernel_rfl
theorem undSB (w : World) : (underlying 9).run Tryz.prog w = .ok .string w := by kernel_rfl
theorem chkSB (b : Bool) (k : ByteArray) (w : World) : (Instr.checkKey b 10000 9 (.string k)).run Tryz.prog w = .ok () w := by kernel_rfl
theorem fndSB (k : ByteArray) (l : List MapEntry) (r : Option (Nat × Value)) (w : World) (hf : Instr.findNow .string (.string k) l 0 = some r) : (Instr.findKey 9 (.string k) l).run Tryz.prog w = .ok r w := by
  simp only [Instr.findKey, Sem.run_bind, undSB, Result.andThen, hf]
  rfl
theorem updMB (w : World) (r : Nat) (es : Array MapEntry) (clock : Nat) (k : ByteArray) (v : Value) (hb : w.heap[r]? = some (.map es clock)) (hf : Instr.findNow .string (.string k) es.toList 0 = some none) :
    (Instr.mapUpdate 182 (.map (some r)) (.string k) v).run Tryz.prog w = .ok () (setBlock w r (.map (es.push { key := .string k, val := v, born := clock }) (clock + 1))) := by
  simp only [Instr.mapUpdate, Sem.run_bind, undMB, Result.andThen, getObj, Sem.run, hb, chkSB]
  simp [Sem.run, fndSB k es.toList none w hf, setObj, hb, setBlock]
theorem lookMB (w : World) (r : Nat) (es : Array MapEntry) (clock : Nat) (k : ByteArray) (hb : w.heap[r]? = some (.map es clock)) (hf : Instr.findNow .string (.string k) es.toList 0 = some none) :
    (Instr.lookup 182 (.map (some r)) (.string k) false).run Tryz.prog w = .ok (.bool false) w := by
  have hz : ∀ w : World, (zeroValue 4).run Tryz.prog w = .ok (.bool false) w := fun _ => by kernel_rfl
  have h2 := fndSB k es.toList none w hf
  simp only [Instr.lookup, Sem.run_bind, undMB, Result.andThen, getObj, Sem.run, hb, chkSB]
  simp [h2, hz, Result.andThen]
/-- The map has these names. -/
def KeyMap (K : List ByteArray) (es : Array MapEntry) : Prop := es.toList.map (·.key) = K.map Value.string ∧ ∀ e ∈ es.toList, e.val = .bool true
theorem KeyMap.nil : KeyMap [] #[] := ⟨rfl, fun e h => by simp at h⟩
theorem KeyMap.push {K : List ByteArray} {es : Array MapEntry} (h : KeyMap K es) (s : ByteArray) (n : Nat) : KeyMap (K ++ [s]) (es.push { key := .string s, val := .bool true, born := n }) := by
  refine ⟨by simp [h.1], fun e he => ?_⟩
  simp at he
  rcases he with he | rfl
  · exact h.2 e (by simpa using he)
  · rfl
theorem KeyMap.find {K : List ByteArray} {es : Array MapEntry} (h : KeyMap K es) (s : ByteArray) : (s ∈ K → ∃ i, Instr.findNow .string (.string s) es.toList 0 = some (some (i, .bool true))) ∧ (¬ s ∈ K → Instr.findNow .string (.string s) es.toList 0 = some none) := by
  have hk : ∀ x ∈ es.toList, IsKey .string x.key := fun x hx => by
    have : x.key ∈ es.toList.map (·.key) := List.mem_map.2 ⟨x, hx, rfl⟩
    rw [h.1] at this
    obtain ⟨y, _, e⟩ := List.mem_map.1 this
    rw [← e]; trivial
  rcases findNow_spec (d := .string) (k := .string s) trivial es.toList 0 hk with ⟨h1, h2⟩ | ⟨j, e, h1, h2, h3⟩
  · refine ⟨fun hs => ?_, fun _ => h1⟩
    have : Value.string s ∈ K.map Value.string := List.mem_map.2 ⟨s, hs, rfl⟩
    rw [← h.1] at this
    obtain ⟨x, hx, e⟩ := List.mem_map.1 this
    exact absurd e (h2 x hx)
  · have he : e ∈ es.toList := List.mem_of_getElem? h2
    refine ⟨fun _ => ⟨0 + j, by rw [h1, h.2 e he]⟩, fun hs => ?_⟩
    have : e.key ∈ es.toList.map (·.key) := List.mem_map.2 ⟨e, he, rfl⟩
    rw [h.1, h3] at this
    obtain ⟨y, hy, ey⟩ := List.mem_map.1 this
    cases ey
    exact absurd hy hs
theorem lookMBy (w : World) (r : Nat) (es : Array MapEntry) (clock i : Nat) (k : ByteArray) (hb : w.heap[r]? = some (.map es clock)) (hf : Instr.findNow .string (.string k) es.toList 0 = some (some (i, .bool true))) :
    (Instr.lookup 182 (.map (some r)) (.string k) false).run Tryz.prog w = .ok (.bool true) w := by
  have h2 := fndSB k es.toList (some (i, .bool true)) w hf
  simp only [Instr.lookup, Sem.run_bind, undMB, Result.andThen, getObj, Sem.run, hb, chkSB]
  simp [h2, Result.andThen]
/-- A name is among names. -/
def inN (s : ByteArray) (K : List ByteArray) : Bool := decide (s.data ∈ K.map (·.data))
theorem inN_iff {s : ByteArray} {K : List ByteArray} : inN s K = true ↔ s ∈ K := by
  unfold inN
  rw [decide_eq_true_eq, List.mem_map]
  refine ⟨fun ⟨x, hx, e⟩ => ?_, fun h => ⟨s, h, rfl⟩⟩
  obtain ⟨a⟩ := x
  obtain ⟨b⟩ := s
  cases e
  exact hx
/-- Two texts are not the same. -/
theorem neStr {a b : ByteArray} (h : ¬ a = b) : (a.toList == b.toList) = false := by
  rw [Lib.toList_data, Lib.toList_data]
  refine beq_false_of_ne fun e => h ?_
  obtain ⟨⟨x⟩⟩ := a
  obtain ⟨⟨y⟩⟩ := b
  have e2 : x = y := e
  rw [e2]
theorem BelowE.mono {x N n : Nat} {a b : World} (h : BelowE x N a b) (hn : n ≤ N) : BelowE x n a b := ⟨h.os, h.tape, h.output, h.size, fun i hi h1 => h.block i (Nat.lt_of_lt_of_le hi hn) h1⟩
theorem BelowE.refl (x N : Nat) (a : World) : BelowE x N a a := ⟨rfl, rfl, rfl, Nat.le_refl _, fun _ _ _ => rfl⟩
theorem firE_z2 (x : Int) : firE [x, 0] = x := by
  unfold firE
  by_cases h : x = 0
  · rw [if_pos h, h]; rfl
  · rw [if_neg h]
theorem itself_is (s : ByteArray) (w : World) : Calls Tryz.prog 94 #[.string s] w fun e w' => e = .returned (.string s) ∧ w = w' := by
  go_enter Tryz.func94, Tryz.ntmps94
  go_wp2
  go_ret
  exact ⟨rfl, rfl⟩
theorem right_is (s : ByteArray) (w : World) : Calls Tryz.prog 95 #[.string s] w fun e w' => e = .returned (.int .i64 0) ∧ w = w' := by
  go_enter Tryz.func95, Tryz.ntmps95
  go_wp2
  go_ret
  exact ⟨rfl, rfl⟩
/-- The error of a name behind others; the names that are known behind it; the error of names. -/
def nmsE (K : List ByteArray) (s : ByteArray) : Int := if nameB s = true then (if inN s K = true then 5 else 0) else 4
def nmsK (K : List ByteArray) (s : ByteArray) : List ByteArray := if nmsE K s = 0 then K ++ [s] else K
def nmlE : List ByteArray → List ByteArray → Int
  | _, [] => 0
  | K, s :: r => if nmsE K s = 0 then nmlE (nmsK K s) r else nmsE K s
theorem nmlE_at {K : List ByteArray} {L : List ByteArray} {k : Nat} (hk : k < L.length) : nmlE K (L.drop k) = if nmsE K L[k] = 0 then nmlE (nmsK K L[k]) (L.drop (k + 1)) else nmsE K L[k] := by
  rw [List.drop_eq_getElem_cons hk]; rfl
/-- A name was told: its error, the names of the map behind it. -/
def NStep (r : Nat) (E : Int) (K : List ByteArray) (w : World) (e : Ending) (w' : World) : Prop := e = .returned (.int .i64 E) ∧ (∃ es n, w'.heap[r]? = some (.map es n) ∧ KeyMap K es) ∧ BelowE r w.heap.size w w'
set_option maxHeartbeats 1000000 in
theorem names1_any (s : ByteArray) (E : Int) (q r n : Nat) (es : Array MapEntry) (K K' : List ByteArray) (w : World) (cq : w.cell? ⟨q, 0, none⟩ = some (.map (some r))) (hm : w.heap[r]? = some (.map es n)) (HK : Hid (KeyMap K es)) (hs : s.size ≤ 1000000) (lr : r < w.heap.size) (lq : q < w.heap.size) (nqr : q ≠ r) (hE : Hid (nmsE K s = E)) (hK' : Hid (nmsK K s = K')) :
    Calls Tryz.prog 150 #[.string s, .pointer (some ⟨q, 0, none⟩)] w (NStep r E K' w) := by
  have HM := Lib.hid hm
  have he := hE.out
  have hk := hK'.out
  unfold nmsK at hk
  unfold nmsE at he hk
  clear hm hE hK'
  cases hnm : nameB s with
  | false =>
    have hr : Hid (E = 4) := Lib.hid (by rw [hnm, if_neg Bool.false_ne_true] at he; exact he.symm)
    have hr2 : Hid (K' = K) := Lib.hid (by rw [hnm, if_neg Bool.false_ne_true, if_neg (by decide)] at hk; exact hk.symm)
    have hN : Hid (nameE s = 4) := Lib.hid (by unfold nameE; rw [hnm]; rfl)
    clear he hk hnm
    go_enter Tryz.func150, Tryz.ntmps150
    go_wp2_with fail
    refine (Name_any s 4 _ hs hN).mono ?_
    rintro e x1 ⟨rfl, hb1⟩
    have HB := Lib.hid hb1
    clear hb1
    go_wp2
    go_ret
    exact ⟨ret_int hr.out.symm, ⟨es, n, (HB.out.block r lr).trans HM.out, by rw [hr2.out]; exact HK.out⟩, BelowE.of HB.out (Nat.le_refl _)⟩
  | true =>
    have hN : Hid (nameE s = 0) := Lib.hid (by unfold nameE; rw [hnm]; rfl)
    rw [if_pos hnm] at he hk
    by_cases hin : inN s K = true
    · have hr : Hid (E = 5) := Lib.hid (by rw [if_pos hin] at he; exact he.symm)
      have hr2 : Hid (K' = K) := Lib.hid (by rw [if_pos hin, if_neg (by decide)] at hk; exact hk.symm)
      have HIN := Lib.hid (inN_iff.1 hin)
      clear he hk hnm hin
      go_enter Tryz.func150, Tryz.ntmps150
      go_wp2_with fail
      refine (Name_any s 0 _ hs hN).mono ?_
      rintro e x1 ⟨rfl, hb1⟩
      have HB := Lib.hid hb1
      have cq1 := (hb1.cell (p := ⟨q, 0, none⟩) lq).trans cq
      have hm1 : x1.heap[r]? = some (.map es n) := (hb1.block r lr).trans HM.out
      obtain ⟨i, hf⟩ := (HK.out.find s).1 HIN.out
      have hl := lookMBy x1 r es n i s hm1 hf
      have HR := Lib.hid hm1
      clear hb1 hm1 hf
      go_wp2
      go_ret
      exact ⟨ret_int hr.out.symm, ⟨es, n, HR.out, by rw [hr2.out]; exact HK.out⟩, BelowE.of HB.out (Nat.le_refl _)⟩
    · have hr : Hid (E = 0) := Lib.hid (by rw [if_neg hin] at he; exact he.symm)
      have hr2 : Hid (K' = K ++ [s]) := Lib.hid (by rw [if_neg hin, if_pos rfl] at hk; exact hk.symm)
      have HIN := Lib.hid (fun h => hin (inN_iff.2 h))
      clear he hk hnm hin
      go_enter Tryz.func150, Tryz.ntmps150
      go_wp2_with fail
      refine (Name_any s 0 _ hs hN).mono ?_
      rintro e x1 ⟨rfl, hb1⟩
      have z1 := hb1.size
      have lr1 : r < x1.heap.size := by omega
      have lq1 : q < x1.heap.size := by omega
      have cq1 := (hb1.cell (p := ⟨q, 0, none⟩) lq).trans cq
      have hm1 : x1.heap[r]? = some (.map es n) := (hb1.block r lr).trans HM.out
      have hf := (HK.out.find s).2 HIN.out
      have hl := lookMB x1 r es n s hm1 hf
      have hu := updMB x1 r es n s (.bool true) hm1 hf
      have SE := BelowE.set r w.heap.size x1 (.map (es.push { key := .string s, val := .bool true, born := n }) (n + 1))
      have hs3 : (setBlock x1 r (.map (es.push { key := .string s, val := .bool true, born := n }) (n + 1))).heap[r]? = some (.map (es.push { key := .string s, val := .bool true, born := n }) (n + 1)) := setBlockF_eq x1 r _ lr1
      generalize setBlock x1 r (.map (es.push { key := .string s, val := .bool true, born := n }) (n + 1)) = x3 at *
      have HS := Lib.hid hs3
      have HU := Lib.hid SE
      have HB := Lib.hid hb1
      clear hs3 SE hm1 hb1 hf
      go_wp2
      go_ret
      exact ⟨ret_int hr.out.symm, ⟨_, _, HS.out, by rw [hr2.out]; exact HK.out.push s n⟩, (BelowE.of HB.out (Nat.le_refl _)).trans HU.out⟩
set_option maxRecDepth 100000 in
set_option maxHeartbeats 2000000 in
theorem named1_any (s : ByteArray) (E : Int) (p1 p2 p3 q r n : Nat) (es : Array MapEntry) (Kn Kn' : List ByteArray) (w : World) (c1 : w.cell? ⟨p1, 0, none⟩ = some (.func (.func 150) #[] #[.pointer (some ⟨q, 0, none⟩)])) (c2 : w.cell? ⟨p2, 0, none⟩ = some (.func (.func 94) #[] #[])) (c3 : w.cell? ⟨p3, 0, none⟩ = some (.func (.func 95) #[] #[]))
    (cq : w.cell? ⟨q, 0, none⟩ = some (.map (some r))) (hm : w.heap[r]? = some (.map es n)) (HK : Hid (KeyMap Kn es)) (hs : s.size ≤ 1000000) (l1 : p1 < w.heap.size) (l2 : p2 < w.heap.size) (l3 : p3 < w.heap.size) (lr : r < w.heap.size) (lq : q < w.heap.size) (n1 : p1 ≠ r) (n2 : p2 ≠ r) (n3 : p3 ≠ r) (nqr : q ≠ r) (hE : Hid (nmsE Kn s = E)) (hK' : Hid (nmsK Kn s = Kn')) :
    Calls Tryz.prog 130 #[.string s, .pointer (some ⟨p1, 0, none⟩), .pointer (some ⟨p2, 0, none⟩), .pointer (some ⟨p3, 0, none⟩)] w (NStep r E Kn' w) := by
  go_enter Tryz.func130, Tryz.ntmps130
  go_upto_region 1 with (fail)
  refine wp_region_held_drew (S := (fun w' => w'.cell? ⟨p1, 0, none⟩ = some (.func (.func 150) #[] #[.pointer (some ⟨q, 0, none⟩)]) ∧ w'.cell? ⟨p2, 0, none⟩ = some (.func (.func 94) #[] #[]) ∧ w'.cell? ⟨p3, 0, none⟩ = some (.func (.func 95) #[] #[]))) (by kernel_rfl) (by simp [go_sem, World.cell?_alloc_past, *]) (fun hHeld => ?_)
  refine tkH 0 ⟨some 6, _, _, _, _, _⟩ ?_ rfl ?_ (by assumption) ?_
  rotate_left
  · (intro w hSw; (try dsimp only at hSw); go_simp; all_goals with_reducible rfl)
  try simp only [Act.put, sA, sB, sC]
  refine tkH 1 ⟨some 7, _, _, _, _, _⟩ ?_ rfl ?_ (by assumption) ?_
  rotate_left
  · (intro w hSw; (try dsimp only at hSw); go_simp; all_goals with_reducible rfl)
  try simp only [Act.put, sA, sB, sC]
  refine tkH 2 ⟨some 8, _, _, _, _, _⟩ ?_ rfl ?_ (by assumption) ?_
  rotate_left
  · (intro w hSw; (try dsimp only at hSw); go_simp; all_goals with_reducible rfl)
  try simp only [Act.put, sA, sB, sC]
  refine tkH 5 ⟨some 11, _, _, _, _, _⟩ ?_ rfl ?_ (by assumption) ?_
  rotate_left
  · (intro w hSw; (try dsimp only at hSw); go_simp; all_goals with_reducible rfl)
  try simp only [Act.put, sA, sB, sC]
  refine tkH 6 ⟨some 12, _, _, _, _, _⟩ ?_ rfl ?_ (by assumption) ?_
  rotate_left
  · (intro w hSw; (try dsimp only at hSw); go_simp; all_goals with_reducible rfl)
  try simp only [Act.put, sA, sB, sC]
  refine wpAnyH_ready (rs := [3]) (by kernel_rfl) (by simp) ?_
  refine AllReadyH.cons rfl (fun K hK => ?_) AllReadyH.nil
  go_simp
  refine (itself_is s _).mono ?_
  rintro e w' ⟨rfl, rfl⟩
  go_wp2_with fail
  refine hK.out _ _ (by simp [go_sem, World.cell?_alloc_past, *]) (fun hHeld => ?_)
  clear hK K
  try simp only [Act.put, sA, sB, sC]
  refine wpAnyH_ready (rs := [4]) (by kernel_rfl) (by simp) ?_
  refine AllReadyH.cons rfl (fun K hK => ?_) AllReadyH.nil
  go_simp
  refine (names1_any s E q r n es Kn Kn' w.drew (by simpa using cq) hm HK hs (by simpa using lr) (by simpa using lq) nqr hE hK').mono ?_
  rintro e x1 ⟨rfl, hmp, hb1'⟩
  have hb1 : BelowE r w.heap.size w x1 := (BelowE.of (show Below w.heap.size w w.drew from (by (repeat (first | (with_reducible refine Below.drew ?_) | (with_reducible refine below_drewN ?_ _) | (with_reducible refine Below.alloc ?_ (by first | omega | (simp; done) | (simp; omega) | (simp at *; omega)) _) | (with_reducible refine Below.setCell ?_ (by first | omega | (simp; done) | (simp; omega) | (simp at *; omega)) _) | (with_reducible exact Below.refl _ _) | (with_reducible assumption) | (with_reducible refine Below.trans ?_ (Below.mono (by assumption) (by first | omega | (simp; done) | (simp; omega) | (simp at *; omega)))))))) (Nat.le_refl _)).trans (hb1'.mono (by simp))
  clear hb1'
  have c1_1 : x1.cell? ⟨p1, 0, none⟩ = some (.func (.func 150) #[] #[.pointer (some ⟨q, 0, none⟩)]) := (hb1.cell (i := 0) (b := p1) l1 n1).trans c1
  have c1_2 : x1.cell? ⟨p2, 0, none⟩ = some (.func (.func 94) #[] #[]) := (hb1.cell (i := 0) (b := p2) l2 n2).trans c2
  have c1_3 : x1.cell? ⟨p3, 0, none⟩ = some (.func (.func 95) #[] #[]) := (hb1.cell (i := 0) (b := p3) l3 n3).trans c3
  have HB1 := Lib.hid hb1
  have HMP := Lib.hid hmp
  have z1 := hb1.size
  try simp at z1
  clear hb1 hmp
  have m1 : p1 < x1.heap.size := by omega
  have m2 : p2 < x1.heap.size := by omega
  have m3 : p3 < x1.heap.size := by omega
  go_wp2_with fail
  refine hK.out _ _ (by simp [go_sem, World.cell?_alloc_past, *]) (fun hHeld => ?_)
  clear hK K
  try simp only [Act.put, sA, sB, sC]
  refine wpAnyH_ready (rs := [7]) (by kernel_rfl) (by simp) ?_
  refine AllReadyH.cons rfl (fun K hK => ?_) AllReadyH.nil
  go_simp
  refine (right_is s _).mono ?_
  rintro e w' ⟨rfl, rfl⟩
  go_wp2_with fail
  refine hK.out _ _ (by simp [go_sem, World.cell?_alloc_past, *]) (fun hHeld => ?_)
  clear hK K
  try simp only [Act.put, sA, sB, sC]
  refine wpAnyH_ready (rs := [8]) (by kernel_rfl) (by simp) ?_
  refine AllReadyH.cons rfl (fun K hK => ?_) AllReadyH.nil
  go_simp
  go_wp2_with fail
  refine hK.out _ _ (by simp [go_sem, World.cell?_alloc_past, *]) (fun hHeld => ?_)
  clear hK K
  try simp only [Act.put, sA, sB, sC]
  refine wpAnyH_ready (rs := [9]) (by kernel_rfl) (by simp) ?_
  refine AllReadyH.cons rfl (fun K hK => ?_) AllReadyH.nil
  go_simp
  refine (cF2x E 0 E _ _ (Lib.hid (firE_z2 E)) (by simp [go_sem]) (by simp [go_sem])).mono ?_
  rintro e w' ⟨rfl, rfl⟩
  go_wp2_with fail
  refine hK.out _ _ (by simp [go_sem, World.cell?_alloc_past, *]) (fun hHeld => ?_)
  clear hK K
  try simp only [Act.put, sA, sB, sC]
  refine tkH 10 ⟨some 5, _, _, _, _, _⟩ ?_ rfl ?_ (by assumption) ?_
  rotate_left
  · (intro w hSw; (try dsimp only at hSw); go_simp; all_goals with_reducible rfl)
  try simp only [Act.put, sA, sB, sC]
  refine wpAnyH_done (by kernel_rfl) ?_ _
  go_wp2
  go_ret
  refine ⟨rfl, ?_, ?_⟩
  · obtain ⟨es', n', h1, h2⟩ := HMP.out
    have hlt : r < x1.heap.size := by omega
    exact ⟨es', n', by rw [← h1]; exact (show Below x1.heap.size x1 _ from (by (repeat (first | (with_reducible refine Below.drew ?_) | (with_reducible refine below_drewN ?_ _) | (with_reducible refine Below.alloc ?_ (by first | omega | (simp; done) | (simp; omega) | (simp at *; omega)) _) | (with_reducible refine Below.setCell ?_ (by first | omega | (simp; done) | (simp; omega) | (simp at *; omega)) _) | (with_reducible exact Below.refl _ _) | (with_reducible assumption) | (with_reducible refine Below.trans ?_ (Below.mono (by assumption) (by first | omega | (simp; done) | (simp; omega) | (simp at *; omega)))))))).block r hlt, h2⟩
  · exact HB1.out.trans (BelowE.of (show Below x1.heap.size x1 _ from (by (repeat (first | (with_reducible refine Below.drew ?_) | (with_reducible refine below_drewN ?_ _) | (with_reducible refine Below.alloc ?_ (by first | omega | (simp; done) | (simp; omega) | (simp at *; omega)) _) | (with_reducible refine Below.setCell ?_ (by first | omega | (simp; done) | (simp; omega) | (simp at *; omega)) _) | (with_reducible exact Below.refl _ _) | (with_reducible assumption) | (with_reducible refine Below.trans ?_ (Below.mono (by assumption) (by first | omega | (simp; done) | (simp; omega) | (simp at *; omega)))))))) z1)
theorem each1_any (i : Int) (s : ByteArray) (E : Int) (c p1 p2 p3 q r n : Nat) (es : Array MapEntry) (K K' : List ByteArray) (w : World) (cc : w.cell? ⟨c, 0, none⟩ = some (.func (.func 130) #[] #[.pointer (some ⟨p1, 0, none⟩), .pointer (some ⟨p2, 0, none⟩), .pointer (some ⟨p3, 0, none⟩)])) (c1 : w.cell? ⟨p1, 0, none⟩ = some (.func (.func 150) #[] #[.pointer (some ⟨q, 0, none⟩)])) (c2 : w.cell? ⟨p2, 0, none⟩ = some (.func (.func 94) #[] #[])) (c3 : w.cell? ⟨p3, 0, none⟩ = some (.func (.func 95) #[] #[]))
    (cq : w.cell? ⟨q, 0, none⟩ = some (.map (some r))) (hm : w.heap[r]? = some (.map es n)) (HK : Hid (KeyMap K es)) (hs : s.size ≤ 1000000) (l1 : p1 < w.heap.size) (l2 : p2 < w.heap.size) (l3 : p3 < w.heap.size) (lr : r < w.heap.size) (lq : q < w.heap.size) (n1 : p1 ≠ r) (n2 : p2 ≠ r) (n3 : p3 ≠ r) (nqr : q ≠ r) (hE : Hid (nmsE K s = E)) (hK' : Hid (nmsK K s = K')) :
    Calls Tryz.prog 153 #[.int .i64 i, .string s, .pointer (some ⟨c, 0, none⟩)] w (NStep r E K' w) := by
  go_enter Tryz.func153, Tryz.ntmps153
  go_wp2_with fail
  refine (named1_any s E p1 p2 p3 q r n es K K' _ c1 c2 c3 cq hm HK hs l1 l2 l3 lr lq n1 n2 n3 nqr hE hK').mono ?_
  rintro e x1 ⟨rfl, hmp, hb1⟩
  have HB1 := Lib.hid hb1
  have HMP := Lib.hid hmp
  clear hb1 hmp
  go_wp2
  go_ret
  exact ⟨rfl, HMP.out, HB1.out⟩
def strV (s : ByteArray) : List Value := [.string s]
/-- All that the walk over names needs of the world: the closures' cells and the map. -/
structure NmW (c p1 p2 p3 q r b : Nat) (off : Nat) (L K : List ByteArray) (w : World) : Prop where
  cc : w.cell? ⟨c, 0, none⟩ = some (.func (.func 130) #[] #[.pointer (some ⟨p1, 0, none⟩), .pointer (some ⟨p2, 0, none⟩), .pointer (some ⟨p3, 0, none⟩)])
  c1 : w.cell? ⟨p1, 0, none⟩ = some (.func (.func 150) #[] #[.pointer (some ⟨q, 0, none⟩)])
  c2 : w.cell? ⟨p2, 0, none⟩ = some (.func (.func 94) #[] #[])
  c3 : w.cell? ⟨p3, 0, none⟩ = some (.func (.func 95) #[] #[])
  cq : w.cell? ⟨q, 0, none⟩ = some (.map (some r))
  map : ∃ es n, w.heap[r]? = some (.map es n) ∧ KeyMap K es
  rows : RowsAt strV 1 w b off L
  lc : c < w.heap.size
  l1 : p1 < w.heap.size
  l2 : p2 < w.heap.size
  l3 : p3 < w.heap.size
  lr : r < w.heap.size
  lq : q < w.heap.size
  lb : b < w.heap.size
  nc : c ≠ r
  n1 : p1 ≠ r
  n2 : p2 ≠ r
  n3 : p3 ≠ r
  nqr : q ≠ r
  nb : b ≠ r
theorem NmW.step {c p1 p2 p3 q r b off : Nat} {L K K' : List ByteArray} {w w' : World} (h : NmW c p1 p2 p3 q r b off L K w) (hm : ∃ es n, w'.heap[r]? = some (.map es n) ∧ KeyMap K' es) (hb : BelowE r w.heap.size w w') : NmW c p1 p2 p3 q r b off L K' w' := by
  have z := hb.size
  exact ⟨(hb.cell h.lc h.nc).trans h.cc, (hb.cell h.l1 h.n1).trans h.c1, (hb.cell h.l2 h.n2).trans h.c2, (hb.cell h.l3 h.n3).trans h.c3, (hb.cell h.lq h.nqr).trans h.cq, hm, fun k hk i hi => (hb.cell h.lb h.nb).trans (h.rows k hk i hi), by have := h.lc; omega, by have := h.l1; omega, by have := h.l2; omega, by have := h.l3; omega, by have := h.lr; omega, by have := h.lq; omega, by have := h.lb; omega, h.nc, h.n1, h.n2, h.n3, h.nqr, h.nb⟩
def NumE (r : Nat) (E : Int) (w : World) (e : Ending) (w' : World) : Prop := ∃ n : Int, e = .returned (.tuple #[.int .i64 n, .int .i64 E]) ∧ BelowE r w.heap.size w w'
set_option maxRecDepth 100000 in
set_option maxHeartbeats 2000000 in
theorem numNames_any (L : List ByteArray) (b off cap len c p1 p2 p3 q r : Nat) (E : Int) (w : World) (hlen : Hid (len = L.length)) (hl : len ≤ 1000000) (hsz : Hid (∀ s ∈ L, s.size ≤ 1000000)) (HW : Hid (NmW c p1 p2 p3 q r b off L [] w)) (hE : Hid (nmlE [] L = E)) :
    Calls Tryz.prog 152 #[.slice (some ⟨b, off, none⟩) len cap, .func (.func 153) #[] #[.pointer (some ⟨c, 0, none⟩)]] w (NumE r E w) := by
  go_enter Tryz.func152, Tryz.ntmps152
  go_wp2
  go_loopw [11] (fun i wr => ∃ (k : Nat) (K : List ByteArray), k ≤ len ∧ i = .int .i64 k ∧ Hid (nmlE K (L.drop k) = E) ∧ Hid (NmW c p1 p2 p3 q r b off L K wr) ∧ Hid (BelowE r w.heap.size w wr)) (fun i _ => len - (intOf i).toNat)
  case atStart => exact ⟨0, [], by omega, rfl, by rw [List.drop_zero]; exact hE, HW, Lib.hid (BelowE.refl _ _ _)⟩
  case round =>
    clear hE HW
    obtain ⟨k, K, hk, rfl, hz, HW, HB⟩ := hrel
    by_cases hkl : k < len
    · have hkL : k < L.length := by have := hlen.out; omega
      have kn : (k : Int) < (len : Int) := by omega
      have c0 := HW.out.rows k hkL 0 (by omega)
      rw [show (strV L[k])[0]? = some (.string L[k]) from rfl, Nat.add_zero, Nat.mul_one] at c0
      have he := hz.out
      rw [nmlE_at hkL] at he
      have hs1 := hsz.out L[k] (List.getElem_mem hkL)
      obtain ⟨s, q0⟩ : ∃ x, Hid (L[k] = x) := ⟨L[k], Lib.hid rfl⟩
      rw [q0.out] at c0 hs1 he
      obtain ⟨es, n, hmw, hKM⟩ := HW.out.map
      have HMW := Lib.hid hmw
      have HKM := Lib.hid hKM
      obtain ⟨F, hF⟩ : ∃ F, Hid (nmsE K s = F) := ⟨_, Lib.hid rfl⟩
      obtain ⟨K', hK'⟩ : ∃ K', Hid (nmsK K s = K') := ⟨_, Lib.hid rfl⟩
      rw [hF.out, hK'.out] at he
      have hc := each1_any (k : Int) s F c p1 p2 p3 q r n es K K' wr HW.out.cc HW.out.c1 HW.out.c2 HW.out.c3 HW.out.cq HMW.out HKM hs1 HW.out.l1 HW.out.l2 HW.out.l3 HW.out.lr HW.out.lq HW.out.n1 HW.out.n2 HW.out.n3 HW.out.nqr hF hK'
      have HC := Lib.hid hc
      clear hmw hKM hs1 q0 hc
      rcases ez2 F with ⟨hz0, hzb⟩ | ⟨hz0, hzb⟩
      · have hE2 : Hid (nmlE K' (L.drop (k + 1)) = E) := Lib.hid (by rw [if_pos hz0.out] at he; exact he)
        clear he hz
        go_wp2_with fail
        refine HC.out.mono ?_
        rintro e x1 ⟨rfl, hmp, hb1⟩
        have HW1 := Lib.hid (HW.out.step hmp hb1)
        have HB1 := Lib.hid (HB.out.trans (hb1.mono HB.out.size))
        clear hmp hb1
        go_wp2
        go_roundw
        case rel => exact ⟨k + 1, K', by omega, by go_num, hE2, HW1, HB1⟩
        case measure => simp [intOf]; omega
      · have hr : Hid (E = F) := Lib.hid (by rw [if_neg hz0.out] at he; exact he.symm)
        clear he hz
        go_wp2_with fail
        refine HC.out.mono ?_
        rintro e x1 ⟨rfl, hmp, hb1⟩
        have HB1 := Lib.hid (HB.out.trans (hb1.mono HB.out.size))
        clear hmp hb1
        go_wp2
        go_ret2
        exact ⟨(k : Int), by rw [hr.out]; rfl, HB1.out⟩
    · have hkk : k = len := by omega
      have hr : Hid (E = 0) := Lib.hid (by rw [← hz.out, List.drop_of_length_le (by have := hlen.out; omega)]; rfl)
      clear hz hkk
      go_wp2
      go_ret2
      exact ⟨0, by rw [hr.out]; rfl, HB.out⟩
theorem eachNames_any (L : List ByteArray) (b off cap len p1 p2 p3 q r : Nat) (E : Int) (w : World) (hlen : Hid (len = L.length)) (hl : len ≤ 1000000) (hsz : Hid (∀ s ∈ L, s.size ≤ 1000000)) (HW : Hid (∀ w', Below w.heap.size w w' → ∀ c, c < w'.heap.size → c ≠ r → w'.cell? ⟨c, 0, none⟩ = some (.func (.func 130) #[] #[.pointer (some ⟨p1, 0, none⟩), .pointer (some ⟨p2, 0, none⟩), .pointer (some ⟨p3, 0, none⟩)]) → NmW c p1 p2 p3 q r b off L [] w')) (lr : r < w.heap.size) (hE : Hid (nmlE [] L = E)) :
    Calls Tryz.prog 129 #[.slice (some ⟨b, off, none⟩) len cap, .func (.func 130) #[] #[.pointer (some ⟨p1, 0, none⟩), .pointer (some ⟨p2, 0, none⟩), .pointer (some ⟨p3, 0, none⟩)]] w fun e w' => e = .returned (.int .i64 E) ∧ BelowE r w.heap.size w w' := by
  have o1 : w.heap.size ≠ r := by omega
  go_enter Tryz.func129, Tryz.ntmps129
  go_wp2_with fail
  refine (numNames_any L b off cap len w.heap.size p1 p2 p3 q r E _ hlen hl hsz (Lib.hid (HW.out _ (by (repeat (first | (with_reducible refine Below.drew ?_) | (with_reducible refine below_drewN ?_ _) | (with_reducible refine Below.alloc ?_ (by first | omega | (simp; done) | (simp; omega) | (simp at *; omega)) _) | (with_reducible refine Below.setCell ?_ (by first | omega | (simp; done) | (simp; omega) | (simp at *; omega)) _) | (with_reducible exact Below.refl _ _) | (with_reducible assumption) | (with_reducible refine Below.trans ?_ (Below.mono (by assumption) (by first | omega | (simp; done) | (simp; omega) | (simp at *; omega))))))) w.heap.size (by simp) o1 (by simp [go_sem]))) hE).mono ?_
  rintro e x1 ⟨i, rfl, hb1⟩
  have hB1 : BelowE r w.heap.size w x1 := (BelowE.of (N := w.heap.size) (show Below w.heap.size w _ from (Below.refl _ _).alloc (Nat.le_refl _) _) (Nat.le_refl _)).trans (hb1.mono (by simp))
  have HB := Lib.hid hB1
  clear hb1 hB1
  go_wp2
  go_ret
  exact ⟨rfl, HB.out⟩
/-- What check.Names returns: a closure over a new map. -/
def NamesP (w : World) (e : Ending) (w' : World) : Prop := ∃ q r, e = .returned (.func (.func 150) #[] #[.pointer (some ⟨q, 0, none⟩)]) ∧ w'.cell? ⟨q, 0, none⟩ = some (.map (some r)) ∧ w'.heap[r]? = some (.map #[] 0) ∧ q ≠ r ∧ w.heap.size ≤ q ∧ w.heap.size ≤ r ∧ q < w'.heap.size ∧ r < w'.heap.size ∧ Below w.heap.size w w'
theorem Names_is (w : World) : Calls Tryz.prog 128 #[] w (NamesP w) := by
  have h0 := @run_makeMap Tryz.prog
  have hmf : ∀ (fn : Fn) (first cap : Array Value) (w : World), (Instr.makeFunc fn first cap).run Tryz.prog w = .ok (.func fn first cap) w := fun _ _ _ _ => rfl
  go_enter Tryz.func128, Tryz.ntmps128
  go_wp2
  go_ret
  refine ⟨w.heap.size + 1, w.heap.size, rfl, by simp [go_sem], ?_, by omega, by omega, by omega, by simp, by simp; omega, (by (repeat (first | (with_reducible refine Below.drew ?_) | (with_reducible refine below_drewN ?_ _) | (with_reducible refine Below.alloc ?_ (by first | omega | (simp; done) | (simp; omega) | (simp at *; omega)) _) | (with_reducible refine Below.setCell ?_ (by first | omega | (simp; done) | (simp; omega) | (simp at *; omega)) _) | (with_reducible exact Below.refl _ _) | (with_reducible assumption) | (with_reducible refine Below.trans ?_ (Below.mono (by assumption) (by first | omega | (simp; done) | (simp; omega) | (simp at *; omega)))))))⟩
  refine (Below.heap_alloc _ _ _ (by simp)).trans ?_
  have := allocF_at w (.map #[] 0)
  simpa using this
set_option maxRecDepth 100000 in
set_option maxHeartbeats 2000000 in
theorem namedNames_is (L : List ByteArray) (b off cap len : Nat) (E : Int) (w : World) (hlen : Hid (len = L.length)) (hl : len ≤ 1000000) (hsz : Hid (∀ s ∈ L, s.size ≤ 1000000)) (hlt : b < w.heap.size) (HP : Hid (RowsAt strV 1 w b off L)) (hE : Hid (nmlE [] L = E)) :
    Calls Tryz.prog 96 #[.slice (some ⟨b, off, none⟩) len cap, .func (.func 94) #[] #[], .func (.func 95) #[] #[]] w fun e w' => e = .returned (.int .i64 E) ∧ Below w.heap.size w w' := by
  go_enter Tryz.func96, Tryz.ntmps96
  go_wp2_with fail
  refine (Names_is _).mono ?_
  rintro e x1 ⟨q, r, rfl, cq, cm, nqr, gq, gr, lq, lr, hb1⟩
  have z1 := hb1.size
  simp at z1 gq gr
  have d2 : x1.cell? ⟨w.heap.size, 0, none⟩ = some (.func (.func 94) #[] #[]) := by rw [(bcell hb1).1 _ _ (by simp; omega)]; simp [go_sem, World.cell?_alloc_past]
  have d3 : x1.cell? ⟨w.heap.size + 1, 0, none⟩ = some (.func (.func 95) #[] #[]) := by rw [(bcell hb1).1 _ _ (by simp)]; simp [go_sem, World.cell?_alloc_past]
  have hB1 : Below w.heap.size w x1 := (by (repeat (first | (with_reducible refine Below.drew ?_) | (with_reducible refine below_drewN ?_ _) | (with_reducible refine Below.alloc ?_ (by first | omega | (simp; done) | (simp; omega) | (simp at *; omega)) _) | (with_reducible refine Below.setCell ?_ (by first | omega | (simp; done) | (simp; omega) | (simp at *; omega)) _) | (with_reducible exact Below.refl _ _) | (with_reducible assumption) | (with_reducible refine Below.trans ?_ (Below.mono (by assumption) (by first | omega | (simp; done) | (simp; omega) | (simp at *; omega)))))))
  have HB1 := Lib.hid hB1
  have CM := Lib.hid cm
  have CQ := Lib.hid cq
  have D2 := Lib.hid d2
  have D3 := Lib.hid d3
  clear hb1 cm cq d2 d3 hB1
  go_wp2_with fail
  obtain ⟨u, hu⟩ : ∃ u, Hid (x1.alloc (.cells #[.func (.func 150) #[] #[.pointer (some ⟨q, 0, none⟩)]] 144) = u) := ⟨_, Lib.hid rfl⟩
  have zu : u.heap.size = x1.heap.size + 1 := by rw [← hu.out]; simp
  have hbu : Below x1.heap.size x1 u := by rw [← hu.out]; exact (Below.refl _ _).alloc (Nat.le_refl _) _
  have g1 : u.cell? ⟨x1.heap.size, 0, none⟩ = some (.func (.func 150) #[] #[.pointer (some ⟨q, 0, none⟩)]) := by rw [← hu.out]; simp [go_sem]
  have HW : Hid (∀ w', Below u.heap.size u w' → ∀ c, c < w'.heap.size → c ≠ r → w'.cell? ⟨c, 0, none⟩ = some (.func (.func 130) #[] #[.pointer (some ⟨x1.heap.size, 0, none⟩), .pointer (some ⟨w.heap.size, 0, none⟩), .pointer (some ⟨w.heap.size + 1, 0, none⟩)]) → NmW c x1.heap.size w.heap.size (w.heap.size + 1) q r b off L [] w') := Lib.hid fun w' hb c hc hn hcc => by
    have z := hb.size
    have cell : ∀ b i, b < x1.heap.size → w'.cell? ⟨b, i, none⟩ = x1.cell? ⟨b, i, none⟩ := fun b i h => (hb.cell (p := ⟨b, i, none⟩) (by show b < _; omega)).trans (hbu.cell (p := ⟨b, i, none⟩) h)
    exact ⟨hcc, (hb.cell (p := ⟨x1.heap.size, 0, none⟩) (by show x1.heap.size < _; omega)).trans g1, (cell _ _ (by omega)).trans D2.out, (cell _ _ (by omega)).trans D3.out, (cell _ _ lq).trans CQ.out, ⟨#[], 0, ((hb.block r (by omega)).trans (hbu.block r lr)).trans CM.out, KeyMap.nil⟩,
      fun k hk i hi => ((cell _ _ (by omega)).trans (HB1.out.cell (p := ⟨b, _, none⟩) hlt)).trans (HP.out k hk i hi), hc, by omega, by omega, by omega, by omega, by omega, by omega, hn, by omega, by omega, by omega, nqr, by omega⟩
  rw [hu.out]
  have lru : r < u.heap.size := by omega
  clear g1
  refine (eachNames_any L b off cap len x1.heap.size w.heap.size (w.heap.size + 1) q r E u hlen hl hsz HW lru hE).mono ?_
  rintro e x2 ⟨rfl, hb2⟩
  have HB2 : Hid (Below w.heap.size w x2) := Lib.hid ((HB1.out.trans (hbu.mono HB1.out.size)).trans ((hb2.mono (show w.heap.size ≤ u.heap.size by omega)).below (by omega)))
  clear hb2
  go_wp2
  go_ret
  exact ⟨rfl, HB2.out⟩
end Go.Proofs.YtojaompfffpofaaGreat
