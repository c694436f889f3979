import Derived.Test.YtjkhjjmmkdfjmaaGTFName
import Derived.Test.YtjkhjjmmkdfjmaaGTFShare2
import Derived.Test.YtjkhjjmmkdfjmaaGTRows2
import Derived.Maps.RangeRun
import Derived.ChangeMaps4
import Derived.MapKept
import Derived.Lib.Strings
import Derived.Deep.DrawnRows
import Derived.Deep.CutRange
import Derived.Outline
namespace Go.Proofs.Ytjkhjjmmkdfjmaa
open Go.ChangeShapes Go.WideShapes Go.ChangeAt Go.RowKit Go.MapKept
open Go.ChangeMaps (setBlock)
set_option linter.unusedVariables false
set_option linter.unusedSimpArgs false
attribute [local go_sem ↓] Go.wp_at_zero Go.wp_at_succ
theorem run_store_fn (P : Program) (w : World) (a : Addr) (m : Mode) (f : Fn) (x y : Array Value) : (store a (.func f x y) m).run P w = stored P w a (.func f x y) m := run_store P w a _ m rfl
attribute [local go_sem] run_store_fn
theorem setBlockF_ne (w : World) (r k : Nat) (o : Obj) (h : k ≠ r) : (setBlock w r o).heap[k]? = w.heap[k]? := by
  unfold setBlock
  exact Array.getElem?_setIfInBounds_ne (Ne.symm h)
theorem setBlockF_eq (w : World) (r : Nat) (o : Obj) (h : r < w.heap.size) : (setBlock w r o).heap[r]? = some o := by
  unfold setBlock
  exact Array.getElem?_setIfInBounds_self_of_lt h
theorem setBlockF_size (w : World) (r : Nat) (o : Obj) : (setBlock w r o).heap.size = w.heap.size := by unfold setBlock; simp
theorem allocF_at (w : World) (o : Obj) : (w.alloc o).heap[w.heap.size]? = some o := by
  show (w.heap.push o)[w.heap.size]? = some o
  simp
/-- All blocks below N are as they were, but one. -/
structure BelowE (x N : Nat) (w w' : World) : Prop where
  os : w'.os = w.os
  tape : w'.tape = w.tape
  output : w'.output = w.output
  size : w.heap.size ≤ w'.heap.size
  block : ∀ k, k < N → k ≠ x → w'.heap[k]? = w.heap[k]?
theorem BelowE.trans {x N : Nat} {a b c : World} (h : BelowE x N a b) (k : BelowE x N b c) : BelowE x N a c :=
  ⟨k.os.trans h.os, k.tape.trans h.tape, k.output.trans h.output, Nat.le_trans h.size k.size, fun i hi h1 => (k.block i hi h1).trans (h.block i hi h1)⟩
theorem BelowE.of {x N n : Nat} {a b : World} (h : Below n a b) (hn : N ≤ n) : BelowE x N a b :=
  ⟨h.os, h.tape, h.output, h.size, fun i hi _ => h.block i (Nat.lt_of_lt_of_le hi hn)⟩
theorem BelowE.set (x N : Nat) (w : World) (o : Obj) : BelowE x N w (setBlock w x o) :=
  ⟨rfl, rfl, rfl, by rw [setBlockF_size]; exact Nat.le_refl _, fun k _ h => setBlockF_ne w x k o h⟩
theorem BelowE.cell {x N : Nat} {w w' : World} (h : BelowE x N w w') {b i : Nat} (hb : b < N) (h1 : b ≠ x) : w'.cell? ⟨b, i, none⟩ = w.cell? ⟨b, i, none⟩ :=
  World.cell?_of_block (a := ⟨b, i, none⟩) (h.block b hb h1)
theorem BelowE.frozen {x N : Nat} {w w' : World} (h : BelowE x N w w') {b i : Nat} (hb : b < N) (h1 : b ≠ x) : w'.frozen? ⟨b, i, none⟩ = w.frozen? ⟨b, i, none⟩ :=
  World.frozen?_of_block (a := ⟨b, i, none⟩) (h.block b hb h1)
/-- Nothing that was there before has changed, where the one block is new. -/
theorem BelowE.below {x N : Nat} {w w' : World} (h : BelowE x N w w') (hx : N ≤ x) : Below N w w' :=
  ⟨h.os, h.tape, h.output, h.size, fun i hi => h.block i hi (by omega)⟩
theorem undMB (w : World) : (underlying 185).run Try.prog w = .ok (.map 9 4) w := by kernel_rfl
theorem undSB (w : World) : (underlying 9).run Try.prog w = .ok .string w := by kernel_rfl
theorem chkSB (b : Bool) (k : ByteArray) (w : World) : (Instr.checkKey b 10000 9 (.string k)).run Try.prog w = .ok () w := by kernel_rfl
theorem fndSB (k : ByteArray) (l : List MapEntry) (r : Option (Nat × Value)) (w : World) (hf : Instr.findNow .string (.string k) l 0 = some r) : (Instr.findKey 9 (.string k) l).run Try.prog w = .ok r w := by
  simp only [Instr.findKey, Sem.run_bind, undSB, Result.andThen, hf]
  rfl
theorem updMB (w : World) (r : Nat) (es : Array MapEntry) (clock : Nat) (k : ByteArray) (v : Value) (hb : w.heap[r]? = some (.map es clock)) (hf : Instr.findNow .string (.string k) es.toList 0 = some none) :
    (Instr.mapUpdate 185 (.map (some r)) (.string k) v).run Try.prog w = .ok () (setBlock w r (.map (es.push { key := .string k, val := v, born := clock }) (clock + 1))) := by
  simp only [Instr.mapUpdate, Sem.run_bind, undMB, Result.andThen, getObj, Sem.run, hb, chkSB]
  simp [Sem.run, fndSB k es.toList none w hf, setObj, hb, setBlock]
theorem lookMB (w : World) (r : Nat) (es : Array MapEntry) (clock : Nat) (k : ByteArray) (hb : w.heap[r]? = some (.map es clock)) (hf : Instr.findNow .string (.string k) es.toList 0 = some none) :
    (Instr.lookup 185 (.map (some r)) (.string k) false).run Try.prog w = .ok (.bool false) w := by
  have hz : ∀ w : World, (zeroValue 4).run Try.prog w = .ok (.bool false) w := fun _ => by kernel_rfl
  have h2 := fndSB k es.toList none w hf
  simp only [Instr.lookup, Sem.run_bind, undMB, Result.andThen, getObj, Sem.run, hb, chkSB]
  simp [h2, hz, Result.andThen]
/-- The map has these names. -/
def KeyMap (K : List ByteArray) (es : Array MapEntry) : Prop := es.toList.map (·.key) = K.map Value.string ∧ ∀ e ∈ es.toList, e.val = .bool true
theorem KeyMap.nil : KeyMap [] #[] := ⟨rfl, fun e h => by simp at h⟩
theorem KeyMap.push {K : List ByteArray} {es : Array MapEntry} (h : KeyMap K es) (s : ByteArray) (n : Nat) : KeyMap (K ++ [s]) (es.push { key := .string s, val := .bool true, born := n }) := by
  refine ⟨by simp [h.1], fun e he => ?_⟩
  simp at he
  rcases he with he | rfl
  · exact h.2 e (by simpa using he)
  · rfl
theorem KeyMap.find {K : List ByteArray} {es : Array MapEntry} (h : KeyMap K es) (s : ByteArray) : (s ∈ K → ∃ i, Instr.findNow .string (.string s) es.toList 0 = some (some (i, .bool true))) ∧ (¬ s ∈ K → Instr.findNow .string (.string s) es.toList 0 = some none) := by
  have hk : ∀ x ∈ es.toList, IsKey .string x.key := fun x hx => by
    have : x.key ∈ es.toList.map (·.key) := List.mem_map.2 ⟨x, hx, rfl⟩
    rw [h.1] at this
    obtain ⟨y, _, e⟩ := List.mem_map.1 this
    rw [← e]; trivial
  rcases findNow_spec (d := .string) (k := .string s) trivial es.toList 0 hk with ⟨h1, h2⟩ | ⟨j, e, h1, h2, h3⟩
  · refine ⟨fun hs => ?_, fun _ => h1⟩
    have : Value.string s ∈ K.map Value.string := List.mem_map.2 ⟨s, hs, rfl⟩
    rw [← h.1] at this
    obtain ⟨x, hx, e⟩ := List.mem_map.1 this
    exact absurd e (h2 x hx)
  · have he : e ∈ es.toList := List.mem_of_getElem? h2
    refine ⟨fun _ => ⟨0 + j, by rw [h1, h.2 e he]⟩, fun hs => ?_⟩
    have : e.key ∈ es.toList.map (·.key) := List.mem_map.2 ⟨e, he, rfl⟩
    rw [h.1, h3] at this
    obtain ⟨y, hy, ey⟩ := List.mem_map.1 this
    cases ey
    exact absurd hy hs
theorem lookMBy (w : World) (r : Nat) (es : Array MapEntry) (clock i : Nat) (k : ByteArray) (hb : w.heap[r]? = some (.map es clock)) (hf : Instr.findNow .string (.string k) es.toList 0 = some (some (i, .bool true))) :
    (Instr.lookup 185 (.map (some r)) (.string k) false).run Try.prog w = .ok (.bool true) w := by
  have h2 := fndSB k es.toList (some (i, .bool true)) w hf
  simp only [Instr.lookup, Sem.run_bind, undMB, Result.andThen, getObj, Sem.run, hb, chkSB]
  simp [h2, Result.andThen]
/-- A name is among names. -/
def inN (s : ByteArray) (K : List ByteArray) : Bool := decide (s.data ∈ K.map (·.data))
theorem inN_iff {s : ByteArray} {K : List ByteArray} : inN s K = true ↔ s ∈ K := by
  unfold inN
  rw [decide_eq_true_eq, List.mem_map]
  refine ⟨fun ⟨x, hx, e⟩ => ?_, fun h => ⟨s, h, rfl⟩⟩
  obtain ⟨a⟩ := x
  obtain ⟨b⟩ := s
  cases e
  exact hx
/-- Two texts are not the same. -/
theorem neStr {a b : ByteArray} (h : ¬ a = b) : (a.toList == b.toList) = false := by
  rw [Lib.toList_data, Lib.toList_data]
  refine beq_false_of_ne fun e => h ?_
  obtain ⟨⟨x⟩⟩ := a
  obtain ⟨⟨y⟩⟩ := b
  have e2 : x = y := e
  rw [e2]
theorem BelowE.mono {x N n : Nat} {a b : World} (h : BelowE x N a b) (hn : n ≤ N) : BelowE x n a b := ⟨h.os, h.tape, h.output, h.size, fun i hi h1 => h.block i (Nat.lt_of_lt_of_le hi hn) h1⟩
theorem BelowE.refl (x N : Nat) (a : World) : BelowE x N a a := ⟨rfl, rfl, rfl, Nat.le_refl _, fun _ _ _ => rfl⟩
/-- The error of a name behind others; the names that are known behind it; the error of names. -/
def nmsE (K : List ByteArray) (s : ByteArray) : Int := if nameB s = true then (if inN s K = true then 5 else 0) else 4
def nmsK (K : List ByteArray) (s : ByteArray) : List ByteArray := if nmsE K s = 0 then K ++ [s] else K
/-- A name was told: its error, the names of the map behind it. -/
def NStep (r : Nat) (E : Int) (K : List ByteArray) (w : World) (e : Ending) (w' : World) : Prop := e = .returned (.int .i64 E) ∧ (∃ es n, w'.heap[r]? = some (.map es n) ∧ KeyMap K es) ∧ BelowE r w.heap.size w w'
set_option maxHeartbeats 1000000 in
theorem names1_any (s : ByteArray) (E : Int) (q r n : Nat) (es : Array MapEntry) (K K' : List ByteArray) (w : World) (cq : w.cell? ⟨q, 0, none⟩ = some (.map (some r))) (hm : w.heap[r]? = some (.map es n)) (HK : Hid (KeyMap K es)) (hs : s.size ≤ 1000000) (lr : r < w.heap.size) (lq : q < w.heap.size) (nqr : q ≠ r) (hE : Hid (nmsE K s = E)) (hK' : Hid (nmsK K s = K')) :
    Calls Try.prog 114 #[.string s, .pointer (some ⟨q, 0, none⟩)] w (NStep r E K' w) := by
  have HM := Lib.hid hm
  have he := hE.out
  have hk := hK'.out
  unfold nmsK at hk
  unfold nmsE at he hk
  clear hm hE hK'
  cases hnm : nameB s with
  | false =>
    have hr : Hid (E = 4) := Lib.hid (by rw [hnm, if_neg Bool.false_ne_true] at he; exact he.symm)
    have hr2 : Hid (K' = K) := Lib.hid (by rw [hnm, if_neg Bool.false_ne_true, if_neg (by decide)] at hk; exact hk.symm)
    have hN : Hid (nameE s = 4) := Lib.hid (by unfold nameE; rw [hnm]; rfl)
    clear he hk hnm
    go_enter Try.func114, Try.ntmps114
    go_wp2_with fail
    refine (Name_any s 4 _ hs hN).mono ?_
    rintro e x1 ⟨rfl, hb1⟩
    have HB := Lib.hid hb1
    clear hb1
    go_wp2
    go_ret
    exact ⟨ret_int hr.out.symm, ⟨es, n, (HB.out.block r lr).trans HM.out, by rw [hr2.out]; exact HK.out⟩, BelowE.of HB.out (Nat.le_refl _)⟩
  | true =>
    have hN : Hid (nameE s = 0) := Lib.hid (by unfold nameE; rw [hnm]; rfl)
    rw [if_pos hnm] at he hk
    by_cases hin : inN s K = true
    · have hr : Hid (E = 5) := Lib.hid (by rw [if_pos hin] at he; exact he.symm)
      have hr2 : Hid (K' = K) := Lib.hid (by rw [if_pos hin, if_neg (by decide)] at hk; exact hk.symm)
      have HIN := Lib.hid (inN_iff.1 hin)
      clear he hk hnm hin
      go_enter Try.func114, Try.ntmps114
      go_wp2_with fail
      refine (Name_any s 0 _ hs hN).mono ?_
      rintro e x1 ⟨rfl, hb1⟩
      have HB := Lib.hid hb1
      have cq1 := (hb1.cell (p := ⟨q, 0, none⟩) lq).trans cq
      have hm1 : x1.heap[r]? = some (.map es n) := (hb1.block r lr).trans HM.out
      obtain ⟨i, hf⟩ := (HK.out.find s).1 HIN.out
      have hl := lookMBy x1 r es n i s hm1 hf
      have HR := Lib.hid hm1
      clear hb1 hm1 hf
      go_wp2
      go_ret
      exact ⟨ret_int hr.out.symm, ⟨es, n, HR.out, by rw [hr2.out]; exact HK.out⟩, BelowE.of HB.out (Nat.le_refl _)⟩
    · have hr : Hid (E = 0) := Lib.hid (by rw [if_neg hin] at he; exact he.symm)
      have hr2 : Hid (K' = K ++ [s]) := Lib.hid (by rw [if_neg hin, if_pos rfl] at hk; exact hk.symm)
      have HIN := Lib.hid (fun h => hin (inN_iff.2 h))
      clear he hk hnm hin
      go_enter Try.func114, Try.ntmps114
      go_wp2_with fail
      refine (Name_any s 0 _ hs hN).mono ?_
      rintro e x1 ⟨rfl, hb1⟩
      have z1 := hb1.size
      have lr1 : r < x1.heap.size := by omega
      have lq1 : q < x1.heap.size := by omega
      have cq1 := (hb1.cell (p := ⟨q, 0, none⟩) lq).trans cq
      have hm1 : x1.heap[r]? = some (.map es n) := (hb1.block r lr).trans HM.out
      have hf := (HK.out.find s).2 HIN.out
      have hl := lookMB x1 r es n s hm1 hf
      have hu := updMB x1 r es n s (.bool true) hm1 hf
      have SE := BelowE.set r w.heap.size x1 (.map (es.push { key := .string s, val := .bool true, born := n }) (n + 1))
      have hs3 : (setBlock x1 r (.map (es.push { key := .string s, val := .bool true, born := n }) (n + 1))).heap[r]? = some (.map (es.push { key := .string s, val := .bool true, born := n }) (n + 1)) := setBlockF_eq x1 r _ lr1
      generalize setBlock x1 r (.map (es.push { key := .string s, val := .bool true, born := n }) (n + 1)) = x3 at *
      have HS := Lib.hid hs3
      have HU := Lib.hid SE
      have HB := Lib.hid hb1
      clear hs3 SE hm1 hb1 hf
      go_wp2
      go_ret
      exact ⟨ret_int hr.out.symm, ⟨_, _, HS.out, by rw [hr2.out]; exact HK.out.push s n⟩, (BelowE.of HB.out (Nat.le_refl _)).trans HU.out⟩
def NumE (r : Nat) (E : Int) (w : World) (e : Ending) (w' : World) : Prop := ∃ n : Int, e = .returned (.tuple #[.int .i64 n, .int .i64 E]) ∧ BelowE r w.heap.size w w'
/-- What check.Names returns: a closure over a new map. -/
def NamesP (w : World) (e : Ending) (w' : World) : Prop := ∃ q r, e = .returned (.func (.func 114) #[] #[.pointer (some ⟨q, 0, none⟩)]) ∧ w'.cell? ⟨q, 0, none⟩ = some (.map (some r)) ∧ w'.heap[r]? = some (.map #[] 0) ∧ q ≠ r ∧ w.heap.size ≤ q ∧ w.heap.size ≤ r ∧ q < w'.heap.size ∧ r < w'.heap.size ∧ Below w.heap.size w w'
theorem Names_is (w : World) : Calls Try.prog 92 #[] w (NamesP w) := by
  have h0 := @run_makeMap Try.prog
  have hmf : ∀ (fn : Fn) (first cap : Array Value) (w : World), (Instr.makeFunc fn first cap).run Try.prog w = .ok (.func fn first cap) w := fun _ _ _ _ => rfl
  go_enter Try.func92, Try.ntmps92
  go_wp2
  go_ret
  refine ⟨w.heap.size + 1, w.heap.size, rfl, by simp [go_sem], ?_, by omega, by omega, by omega, by simp, by simp; omega, belA⟩
  refine (Below.heap_alloc _ _ _ (by simp)).trans ?_
  have := allocF_at w (.map #[] 0)
  simpa using this
theorem cF2y (x y r : Int) (b : Nat) (w : World) (hr : Hid (firE [x, y] = r)) (h0 : w.cell? ⟨b, 0, none⟩ = some (.int .i64 x)) (h1 : w.cell? ⟨b, 1, none⟩ = some (.int .i64 y)) :
    Calls Try.prog 62 #[.slice (some ⟨b, 0, none⟩) 2 2] w fun e w' => e = .returned (.int .i64 r) ∧ w = w' := by
  rw [← hr.out]; exact cFirst2c x y b w h0 h1
theorem cF3x (x y z r : Int) (b : Nat) (w : World) (hr : Hid (firE [x, y, z] = r)) (h0 : w.cell? ⟨b, 0, none⟩ = some (.int .i64 x)) (h1 : w.cell? ⟨b, 1, none⟩ = some (.int .i64 y)) (h2 : w.cell? ⟨b, 2, none⟩ = some (.int .i64 z)) :
    Calls Try.prog 62 #[.slice (some ⟨b, 0, none⟩) 3 3] w fun e w' => e = .returned (.int .i64 r) ∧ w = w' := by
  rw [← hr.out]; exact cFirst3c x y z b w h0 h1 h2
theorem CheckGas_x (o h r : Int) (w : World) (hr : Hid (gasE o h = r)) :
    Calls Try.prog 76 #[.agg #[.int .i64 o, .int .i64 h]] w fun e w' => e = .returned (.int .i64 r) ∧ Below w.heap.size w w' := by
  rw [← hr.out]
  exact (CheckGas_any o h w).mono fun e w' ⟨h1, h2⟩ => ⟨h1, by first | exact h2 | (rw [← h2]; exact belA)⟩
theorem firE_two (x y : Int) : firE [x, y] = if x = 0 then y else x := by
  unfold firE
  by_cases h : x = 0
  · rw [if_pos h, if_pos h]; unfold firE; by_cases h2 : y = 0 <;> simp [h2, firE]
  · rw [if_neg h, if_neg h]
theorem RowsAt.belowX {α : Type} {f : α → List Value} {n : Nat} {w w' : World} {b off : Nat} {L : List α} (h : RowsAt f n w b off L) {x N : Nat} (hb : BelowE x N w w') (hlt : b < N) (hx : b ≠ x) : RowsAt f n w' b off L := by
  intro k hk i hi
  rw [← h k hk i hi]
  exact hb.cell hlt hx
theorem ezN (q : Int) : (Hid (q = 0) ∧ Hid ((q != 0) = false)) ∨ (Hid (¬ q = 0) ∧ Hid ((q != 0) = true)) := by
  by_cases h : q = 0
  · exact Or.inl ⟨h, by show (q != 0) = false; simp [h]⟩
  · exact Or.inr ⟨h, by show (q != 0) = true; simpa using h⟩
/-- MixVessel. -/
structure Ve where
  nm : ByteArray
  v : Int
  m : Int
instance : Inhabited Ve := ⟨⟨⟨#[]⟩, 0, 0⟩⟩
def veV (g : Ve) : List Value := [.string g.nm, .int .i64 g.v, .int .i64 g.m]
theorem veV_at {w : World} {b off : Nat} {L : List Ve} (h : RowsAt veV 3 w b off L) {k : Nat} (hk : k < L.length) : w.cell? ⟨b, off + k * 3, none⟩ = some (.string L[k].nm) ∧ w.cell? ⟨b, off + k * 3 + 1, none⟩ = some (.int .i64 L[k].v) ∧ w.cell? ⟨b, off + k * 3 + 2, none⟩ = some (.int .i64 L[k].m) :=
  ⟨h k hk 0 (by omega), h k hk 1 (by omega), h k hk 2 (by omega)⟩
/-- The error of a vessel's numbers. -/
def veE (g : Ve) : Int := if inB g.v 1 1000000 = true then rngE g.m 1 400000 else 2
abbrev errMixVessel (g : Ve) : Int := veE g
theorem veE_fir (s : ByteArray) (v m : Int) : firE [rngE v 1 1000000, rngE m 1 400000] = veE ⟨s, v, m⟩ := by
  unfold veE
  rcases inB_cases v 1 1000000 with h | h
  · rw [rngE_t h, if_pos h]; unfold firE; rw [if_pos rfl]; unfold firE; by_cases h2 : rngE m 1 400000 = 0 <;> simp [h2, firE]
  · rw [rngE_f h, if_neg (by rw [h]; exact Bool.false_ne_true)]; rfl
set_option maxHeartbeats 1000000 in
theorem errOf_MixVessel (s : ByteArray) (v m E : Int) (w : World) (hE : Hid (veE ⟨s, v, m⟩ = E)) : Calls Try.prog 61 #[.agg #[.string s, .int .i64 v, .int .i64 m]] w fun e w' => e = .returned (.int .i64 E) ∧ Below w.heap.size w w' := by
  have hF : Hid (firE [rngE v 1 1000000, rngE m 1 400000] = E) := Lib.hid (by rw [veE_fir s v m]; exact hE.out)
  go_enter Try.func61, Try.ntmps61
  go_upto_region 1 with (fail)
  refine wp_region_held_drew (S := (fun w' => w'.cell? ⟨w.heap.size, 0, none⟩ = some (.string s) ∧ w'.cell? ⟨w.heap.size, 1, none⟩ = some (.int .i64 v) ∧ w'.cell? ⟨w.heap.size, 2, none⟩ = some (.int .i64 m))) (by kernel_rfl) (by simp [go_sem, cP, *]) (fun hHeld => ?_)
  refine tkA 0 3 rfl ?_
  refine tkA 1 4 rfl ?_
  refine tkA 3 6 rfl ?_
  refine tkA 4 7 rfl ?_
  refine rdA 2 rfl (fun K hK => ?_)
  go_simp
  refine (cRange_any _ _ _ _).mono ?_
  rintro e wq ⟨rfl, rfl⟩
  go_wp2_with fail
  refine hK.out _ _ (by simp [go_sem, cP, *]) (fun hHeld => ?_)
  clear hK K
  try simp only [Act.put, sA, sB, sC]
  refine rdA 5 rfl (fun K hK => ?_)
  go_simp
  refine (cRange_any _ _ _ _).mono ?_
  rintro e wq ⟨rfl, rfl⟩
  go_wp2_with fail
  refine hK.out _ _ (by simp [go_sem, cP, *]) (fun hHeld => ?_)
  clear hK K
  try simp only [Act.put, sA, sB, sC]
  refine rdA 6 rfl (fun K hK => ?_)
  go_simp
  go_wp2_with fail
  refine hK.out _ _ (by simp [go_sem, cP, *]) (fun hHeld => ?_)
  clear hK K
  try simp only [Act.put, sA, sB, sC]
  refine rdA 7 rfl (fun K hK => ?_)
  go_simp
  refine (cF2y (rngE v 1 1000000) (rngE m 1 400000) E _ _ hF (by simp [go_sem]) (by simp [go_sem])).mono ?_
  rintro e wq ⟨rfl, rfl⟩
  go_wp2_with fail
  refine hK.out _ _ (by simp [go_sem, cP, *]) (fun hHeld => ?_)
  clear hK K
  try simp only [Act.put, sA, sB, sC]
  refine tkA 8 2 rfl ?_
  refine wpAnyH_done (by kernel_rfl) ?_ _
  go_wp2
  go_ret
  exact ⟨rfl, belA⟩
theorem nameOf_MixVessel (s : ByteArray) (v m : Int) (w : World) : Calls Try.prog 59 #[.agg #[.string s, .int .i64 v, .int .i64 m]] w fun e w' => e = .returned (.string s) ∧ Below w.heap.size w w' := by
  go_enter Try.func59, Try.ntmps59
  go_wp2
  go_ret
  exact ⟨rfl, belA⟩
set_option maxRecDepth 100000 in
set_option maxHeartbeats 4000000 in
theorem named1_MixVessel (s : ByteArray) (v m F G E : Int) (p1 p2 p3 q r n : Nat) (es : Array MapEntry) (Kn Kn' : List ByteArray) (w : World) (c1 : w.cell? ⟨p1, 0, none⟩ = some (.func (.func 114) #[] #[.pointer (some ⟨q, 0, none⟩)])) (c2 : w.cell? ⟨p2, 0, none⟩ = some (.func (.func 59) #[] #[])) (c3 : w.cell? ⟨p3, 0, none⟩ = some (.func (.func 61) #[] #[]))
    (cq : w.cell? ⟨q, 0, none⟩ = some (.map (some r))) (hm : w.heap[r]? = some (.map es n)) (HK : Hid (KeyMap Kn es)) (hs : s.size ≤ 1000000) (l1 : p1 < w.heap.size) (l2 : p2 < w.heap.size) (l3 : p3 < w.heap.size) (lr : r < w.heap.size) (lq : q < w.heap.size) (n1 : p1 ≠ r) (n2 : p2 ≠ r) (n3 : p3 ≠ r) (nqr : q ≠ r) (hF : Hid (nmsE Kn s = F)) (hK' : Hid (nmsK Kn s = Kn')) (hG : Hid (errMixVessel ⟨s, v, m⟩ = G)) (hE : Hid (firE [F, G] = E)) :
    Calls Try.prog 94 #[.agg #[.string s, .int .i64 v, .int .i64 m], .pointer (some ⟨p1, 0, none⟩), .pointer (some ⟨p2, 0, none⟩), .pointer (some ⟨p3, 0, none⟩)] w (NStep r E Kn' w) := by
  have k1 : p1 ≠ w.heap.size := by omega
  have k2 : p2 ≠ w.heap.size := by omega
  have k3 : p3 ≠ w.heap.size := by omega
  go_enter Try.func94, Try.ntmps94
  go_upto_region 1 with (fail)
  refine wp_region_held_drew (S := (fun w' => w'.cell? ⟨p1, 0, none⟩ = some (.func (.func 114) #[] #[.pointer (some ⟨q, 0, none⟩)]) ∧ w'.cell? ⟨p2, 0, none⟩ = some (.func (.func 59) #[] #[]) ∧ w'.cell? ⟨p3, 0, none⟩ = some (.func (.func 61) #[] #[]) ∧ w'.cell? ⟨w.heap.size, 0, none⟩ = some (.string s) ∧ w'.cell? ⟨w.heap.size, 1, none⟩ = some (.int .i64 v) ∧ w'.cell? ⟨w.heap.size, 2, none⟩ = some (.int .i64 m))) (by kernel_rfl) (by simp [go_sem, cP, *]) (fun hHeld => ?_)
  refine tkA 0 6 rfl ?_
  refine tkA 1 7 rfl ?_
  refine tkA 2 8 rfl ?_
  refine tkA 5 11 rfl ?_
  refine tkA 6 12 rfl ?_
  refine rdA 3 rfl (fun K hK => ?_)
  go_simp
  refine (nameOf_MixVessel s v m _).mono ?_
  rintro e y0 ⟨rfl, hb0'⟩
  obtain ⟨hb0, zz0⟩ : Below w.heap.size w y0 ∧ w.heap.size + 1 ≤ y0.heap.size := ⟨belA, by have := hb0'.size; simp at this; omega⟩
  have d0_0 : y0.cell? ⟨p1, 0, none⟩ = some (.func (.func 114) #[] #[.pointer (some ⟨q, 0, none⟩)]) := by rw [(bcell hb0').1 _ _ (by first | (simp; done) | (simp; omega) | omega)]; simp [go_sem, cP, *]
  have d0_1 : y0.cell? ⟨p2, 0, none⟩ = some (.func (.func 59) #[] #[]) := by rw [(bcell hb0').1 _ _ (by first | (simp; done) | (simp; omega) | omega)]; simp [go_sem, cP, *]
  have d0_2 : y0.cell? ⟨p3, 0, none⟩ = some (.func (.func 61) #[] #[]) := by rw [(bcell hb0').1 _ _ (by first | (simp; done) | (simp; omega) | omega)]; simp [go_sem, cP, *]
  have d0_3 : y0.cell? ⟨w.heap.size, 0, none⟩ = some (.string s) := by rw [(bcell hb0').1 _ _ (by first | (simp; done) | (simp; omega) | omega)]; simp [go_sem, cP, *]
  have d0_4 : y0.cell? ⟨w.heap.size, 1, none⟩ = some (.int .i64 v) := by rw [(bcell hb0').1 _ _ (by first | (simp; done) | (simp; omega) | omega)]; simp [go_sem, cP, *]
  have d0_5 : y0.cell? ⟨w.heap.size, 2, none⟩ = some (.int .i64 m) := by rw [(bcell hb0').1 _ _ (by first | (simp; done) | (simp; omega) | omega)]; simp [go_sem, cP, *]
  have HB0 := Lib.hid hb0
  have hq0 := (hb0.cell (p := ⟨q, 0, none⟩) lq).trans cq
  have hm0 := (hb0.block r lr).trans hm
  clear hb0 hb0'
  have e1 : p1 < y0.heap.size := by omega
  have e2 : p2 < y0.heap.size := by omega
  have e3 : p3 < y0.heap.size := by omega
  have er : r < y0.heap.size := by omega
  have eq : q < y0.heap.size := by omega
  have ew : w.heap.size < y0.heap.size := by omega
  have nw : w.heap.size ≠ r := by omega
  go_wp2_with fail
  refine hK.out _ _ (by simp [go_sem, cP, *]) (fun hHeld => ?_)
  clear hK K
  try simp only [Act.put, sA, sB, sC]
  refine rdA 4 rfl (fun K hK => ?_)
  go_simp
  refine (names1_any s F q r n es Kn Kn' _ hq0 hm0 HK hs er eq nqr hF hK').mono ?_
  rintro e x1 ⟨rfl, hmp, hb1⟩
  have d1_0 : x1.cell? ⟨p1, 0, none⟩ = some (.func (.func 114) #[] #[.pointer (some ⟨q, 0, none⟩)]) := (hb1.cell (i := 0) (b := p1) e1 n1).trans d0_0
  have d1_1 : x1.cell? ⟨p2, 0, none⟩ = some (.func (.func 59) #[] #[]) := (hb1.cell (i := 0) (b := p2) e2 n2).trans d0_1
  have d1_2 : x1.cell? ⟨p3, 0, none⟩ = some (.func (.func 61) #[] #[]) := (hb1.cell (i := 0) (b := p3) e3 n3).trans d0_2
  have d1_3 : x1.cell? ⟨w.heap.size, 0, none⟩ = some (.string s) := (hb1.cell (i := 0) (b := w.heap.size) ew nw).trans d0_3
  have d1_4 : x1.cell? ⟨w.heap.size, 1, none⟩ = some (.int .i64 v) := (hb1.cell (i := 1) (b := w.heap.size) ew nw).trans d0_4
  have d1_5 : x1.cell? ⟨w.heap.size, 2, none⟩ = some (.int .i64 m) := (hb1.cell (i := 2) (b := w.heap.size) ew nw).trans d0_5
  have hB1 : BelowE r w.heap.size w x1 := (BelowE.of HB0.out (Nat.le_refl _)).trans (hb1.mono HB0.out.size)
  have HB1 := Lib.hid hB1
  have HMP := Lib.hid hmp
  have z1 := hb1.size
  try simp at z1
  clear hb1 hB1 hmp hq0 hm0 d0_0 d0_1 d0_2 d0_3 d0_4 d0_5
  have m1 : p1 < x1.heap.size := by omega
  have m2 : p2 < x1.heap.size := by omega
  have m3 : p3 < x1.heap.size := by omega
  have mw : w.heap.size < x1.heap.size := by omega
  go_wp2_with fail
  refine hK.out _ _ (by simp [go_sem, cP, *]) (fun hHeld => ?_)
  clear hK K
  try simp only [Act.put, sA, sB, sC]
  refine rdA 7 rfl (fun K hK => ?_)
  go_simp
  refine (errOf_MixVessel s v m G _ hG).mono ?_
  rintro e x2 ⟨rfl, hb2⟩
  have d2_0 : x2.cell? ⟨p1, 0, none⟩ = some (.func (.func 114) #[] #[.pointer (some ⟨q, 0, none⟩)]) := by rw [bc1 hb2]; simp [go_sem, cP, *]
  have d2_1 : x2.cell? ⟨p2, 0, none⟩ = some (.func (.func 59) #[] #[]) := by rw [bc1 hb2]; simp [go_sem, cP, *]
  have d2_2 : x2.cell? ⟨p3, 0, none⟩ = some (.func (.func 61) #[] #[]) := by rw [bc1 hb2]; simp [go_sem, cP, *]
  have d2_3 : x2.cell? ⟨w.heap.size, 0, none⟩ = some (.string s) := by rw [bc1 hb2]; simp [go_sem, cP, *]
  have d2_4 : x2.cell? ⟨w.heap.size, 1, none⟩ = some (.int .i64 v) := by rw [bc1 hb2]; simp [go_sem, cP, *]
  have d2_5 : x2.cell? ⟨w.heap.size, 2, none⟩ = some (.int .i64 m) := by rw [bc1 hb2]; simp [go_sem, cP, *]
  have hB2 : Below x1.heap.size x1 x2 := belA
  have HB2 := Lib.hid hB2
  have z2 := hB2.size
  clear hb2 hB2
  have t1 : p1 < x2.heap.size := by omega
  have t2 : p2 < x2.heap.size := by omega
  have t3 : p3 < x2.heap.size := by omega
  have tw : w.heap.size < x2.heap.size := by omega
  go_wp2_with fail
  refine hK.out _ _ (by simp [go_sem, cP, *]) (fun hHeld => ?_)
  clear hK K
  try simp only [Act.put, sA, sB, sC]
  refine rdA 8 rfl (fun K hK => ?_)
  go_simp
  go_wp2_with fail
  refine hK.out _ _ (by simp [go_sem, cP, *]) (fun hHeld => ?_)
  clear hK K
  try simp only [Act.put, sA, sB, sC]
  refine rdA 9 rfl (fun K hK => ?_)
  go_simp
  refine (cF2y F G E _ _ hE (by simp [go_sem]) (by simp [go_sem])).mono ?_
  rintro e w' ⟨rfl, rfl⟩
  go_wp2_with fail
  refine hK.out _ _ (by simp [go_sem, cP, *]) (fun hHeld => ?_)
  clear hK K
  try simp only [Act.put, sA, sB, sC]
  refine tkA 10 5 rfl ?_
  refine wpAnyH_done (by kernel_rfl) ?_ _

  go_wp2
  go_ret
  refine ⟨rfl, ?_, ?_⟩
  · obtain ⟨es', n', h1, h2⟩ := HMP.out
    have hlt : r < x1.heap.size := by omega
    exact ⟨es', n', by rw [← h1]; exact (show Below x1.heap.size x1 _ from HB2.out.trans ((show Below x2.heap.size x2 _ from belA).mono z2)).block r hlt, h2⟩
  · exact HB1.out.trans (BelowE.of (show Below x1.heap.size x1 _ from HB2.out.trans ((show Below x2.heap.size x2 _ from belA).mono z2)) (by have := HB1.out.size; omega))
theorem each1_MixVessel (i : Int) (s : ByteArray) (v m F G E : Int) (c p1 p2 p3 q r n : Nat) (es : Array MapEntry) (Kn Kn' : List ByteArray) (w : World) (cc : w.cell? ⟨c, 0, none⟩ = some (.func (.func 94) #[] #[.pointer (some ⟨p1, 0, none⟩), .pointer (some ⟨p2, 0, none⟩), .pointer (some ⟨p3, 0, none⟩)])) (lc : c < w.heap.size) (c1 : w.cell? ⟨p1, 0, none⟩ = some (.func (.func 114) #[] #[.pointer (some ⟨q, 0, none⟩)])) (c2 : w.cell? ⟨p2, 0, none⟩ = some (.func (.func 59) #[] #[])) (c3 : w.cell? ⟨p3, 0, none⟩ = some (.func (.func 61) #[] #[]))
    (cq : w.cell? ⟨q, 0, none⟩ = some (.map (some r))) (hm : w.heap[r]? = some (.map es n)) (HK : Hid (KeyMap Kn es)) (hs : s.size ≤ 1000000) (l1 : p1 < w.heap.size) (l2 : p2 < w.heap.size) (l3 : p3 < w.heap.size) (lr : r < w.heap.size) (lq : q < w.heap.size) (n1 : p1 ≠ r) (n2 : p2 ≠ r) (n3 : p3 ≠ r) (nqr : q ≠ r) (hF : Hid (nmsE Kn s = F)) (hK' : Hid (nmsK Kn s = Kn')) (hG : Hid (errMixVessel ⟨s, v, m⟩ = G)) (hE : Hid (firE [F, G] = E)) :
    Calls Try.prog 117 #[.int .i64 i, .agg #[.string s, .int .i64 v, .int .i64 m], .pointer (some ⟨c, 0, none⟩)] w (NStep r E Kn' w) := by
  have kc : c ≠ w.heap.size := by omega
  have HM := Lib.hid hm
  clear hm
  go_enter Try.func117, Try.ntmps117
  go_wp2_with fail
  obtain ⟨u, hu⟩ : ∃ u, Hid (w.alloc (.cells #[.string s, .int .i64 v, .int .i64 m] 69) = u) := ⟨_, Lib.hid rfl⟩
  rw [hu.out]
  have hbu : Below w.heap.size w u := by rw [← hu.out]; exact (Below.refl _ _).alloc (Nat.le_refl _) _
  have zu : u.heap.size = w.heap.size + 1 := by rw [← hu.out]; simp
  refine (named1_MixVessel s v m F G E p1 p2 p3 q r n es Kn Kn' u ((hbu.cell (p := ⟨p1, 0, none⟩) l1).trans c1) ((hbu.cell (p := ⟨p2, 0, none⟩) l2).trans c2) ((hbu.cell (p := ⟨p3, 0, none⟩) l3).trans c3) ((hbu.cell (p := ⟨q, 0, none⟩) lq).trans cq) ((hbu.block r lr).trans HM.out) HK hs (by omega) (by omega) (by omega) (by omega) (by omega) n1 n2 n3 nqr hF hK' hG hE).mono ?_
  rintro e x1 ⟨rfl, hmp, hb1⟩
  have HB1 : Hid (BelowE r w.heap.size w x1) := Lib.hid ((BelowE.of hbu (Nat.le_refl _)).trans (hb1.mono hbu.size))
  have HMP := Lib.hid hmp
  clear hb1 hmp hbu
  go_wp2
  go_ret
  exact ⟨rfl, HMP.out, HB1.out⟩
/-- The error of such elements behind names. -/
def lst_MixVessel : List ByteArray → List Ve → Int
  | _, [] => 0
  | K, g :: r => if firE [nmsE K g.nm, errMixVessel g] = 0 then lst_MixVessel (nmsK K g.nm) r else firE [nmsE K g.nm, errMixVessel g]
theorem lst_MixVessel_at {K : List ByteArray} {L : List Ve} {k : Nat} (hk : k < L.length) : lst_MixVessel K (L.drop k) = if firE [nmsE K L[k].nm, errMixVessel L[k]] = 0 then lst_MixVessel (nmsK K L[k].nm) (L.drop (k + 1)) else firE [nmsE K L[k].nm, errMixVessel L[k]] := by
  rw [List.drop_eq_getElem_cons hk]; rfl
/-- All that the walk over elements needs of the world: the closures' cells and the map. -/
structure NmW_MixVessel (c p1 p2 p3 q r b : Nat) (off : Nat) (L : List Ve) (K : List ByteArray) (w : World) : Prop where
  cc : w.cell? ⟨c, 0, none⟩ = some (.func (.func 94) #[] #[.pointer (some ⟨p1, 0, none⟩), .pointer (some ⟨p2, 0, none⟩), .pointer (some ⟨p3, 0, none⟩)])
  c1 : w.cell? ⟨p1, 0, none⟩ = some (.func (.func 114) #[] #[.pointer (some ⟨q, 0, none⟩)])
  c2 : w.cell? ⟨p2, 0, none⟩ = some (.func (.func 59) #[] #[])
  c3 : w.cell? ⟨p3, 0, none⟩ = some (.func (.func 61) #[] #[])
  cq : w.cell? ⟨q, 0, none⟩ = some (.map (some r))
  map : ∃ es n, w.heap[r]? = some (.map es n) ∧ KeyMap K es
  rows : RowsAt veV 3 w b off L
  lc : c < w.heap.size
  l1 : p1 < w.heap.size
  l2 : p2 < w.heap.size
  l3 : p3 < w.heap.size
  lr : r < w.heap.size
  lq : q < w.heap.size
  lb : L = [] ∨ b < w.heap.size
  nc : c ≠ r
  n1 : p1 ≠ r
  n2 : p2 ≠ r
  n3 : p3 ≠ r
  nqr : q ≠ r
  nb : L = [] ∨ b ≠ r
theorem NmW_MixVessel.step {c p1 p2 p3 q r b off : Nat} {L : List Ve} {K K' : List ByteArray} {w w' : World} (h : NmW_MixVessel c p1 p2 p3 q r b off L K w) (hm : ∃ es n, w'.heap[r]? = some (.map es n) ∧ KeyMap K' es) (hb : BelowE r w.heap.size w w') : NmW_MixVessel c p1 p2 p3 q r b off L K' w' := by
  have z := hb.size
  refine ⟨(hb.cell h.lc h.nc).trans h.cc, (hb.cell h.l1 h.n1).trans h.c1, (hb.cell h.l2 h.n2).trans h.c2, (hb.cell h.l3 h.n3).trans h.c3, (hb.cell h.lq h.nqr).trans h.cq, hm, ?_, by have := h.lc; omega, by have := h.l1; omega, by have := h.l2; omega, by have := h.l3; omega, by have := h.lr; omega, by have := h.lq; omega, h.lb.imp id (fun e => by omega), h.nc, h.n1, h.n2, h.n3, h.nqr, h.nb⟩
  rcases h.lb with e | e
  · subst e; intro k hk; exact absurd hk (by simp)
  · rcases h.nb with e2 | e2
    · subst e2; intro k hk; exact absurd hk (by simp)
    · exact h.rows.belowX hb e e2
set_option maxRecDepth 100000 in
set_option maxHeartbeats 2000000 in
theorem num_MixVessel (L : List Ve) (A : Option Addr) (b off cap len c p1 p2 p3 q r : Nat) (E : Int) (w : World) (hA : Hid (len = 0 ∨ A = some ⟨b, off, none⟩)) (hlen : Hid (len = L.length)) (hl : len ≤ 1000000) (hsz : Hid (∀ g ∈ L, g.nm.size ≤ 1000000)) (HW : Hid (NmW_MixVessel c p1 p2 p3 q r b off L [] w)) (hE : Hid (lst_MixVessel [] L = E)) :
    Calls Try.prog 116 #[.slice A len cap, .func (.func 117) #[] #[.pointer (some ⟨c, 0, none⟩)]] w (NumE r E w) := by
  go_enter Try.func116, Try.ntmps116
  go_wp2
  go_loopw [11] (fun i wr => ∃ (k : Nat) (K : List ByteArray), k ≤ len ∧ i = .int .i64 k ∧ Hid (lst_MixVessel K (L.drop k) = E) ∧ Hid (NmW_MixVessel c p1 p2 p3 q r b off L K wr) ∧ Hid (BelowE r w.heap.size w wr)) (fun i _ => len - (intOf i).toNat)
  case atStart => exact ⟨0, [], by omega, rfl, by rw [List.drop_zero]; exact hE, HW, Lib.hid (BelowE.refl _ _ _)⟩
  case round =>
    clear hE HW
    obtain ⟨k, K, hk, rfl, hz, HW, HB⟩ := hrel
    by_cases hkl : k < len
    · have hkL : k < L.length := by have := hlen.out; omega
      have kn : (k : Int) < (len : Int) := by omega
      have hA2 : A = some ⟨b, off, none⟩ := by rcases hA.out with e | e; (exact absurd e (by omega)); exact e
      subst hA2
      obtain ⟨c0, c1, c2⟩ := veV_at HW.out.rows hkL
      have he := hz.out
      rw [lst_MixVessel_at hkL] at he
      have hs1 := hsz.out L[k] (List.getElem_mem hkL)
      obtain ⟨s, q0⟩ : ∃ x, Hid (L[k].nm = x) := ⟨_, Lib.hid rfl⟩
      obtain ⟨v, q1⟩ : ∃ x, Hid (L[k].v = x) := ⟨_, Lib.hid rfl⟩
      obtain ⟨m, q2⟩ : ∃ x, Hid (L[k].m = x) := ⟨_, Lib.hid rfl⟩
      have hg : L[k] = ⟨s, v, m⟩ := by rw [← q0.out, ← q1.out, ← q2.out]
      rw [hg] at he
      rw [q0.out] at c0 hs1
      rw [q1.out] at c1
      rw [q2.out] at c2
      simp only at he
      obtain ⟨es, n, hmw, hKM⟩ := HW.out.map
      have HMW := Lib.hid hmw
      have HKM := Lib.hid hKM
      obtain ⟨F, hF⟩ : ∃ F, Hid (nmsE K s = F) := ⟨_, Lib.hid rfl⟩
      obtain ⟨G, hG⟩ : ∃ G, Hid (errMixVessel ⟨s, v, m⟩ = G) := ⟨_, Lib.hid rfl⟩
      obtain ⟨K', hK'⟩ : ∃ K', Hid (nmsK K s = K') := ⟨_, Lib.hid rfl⟩
      rw [hF.out, hK'.out, hG.out] at he
      obtain ⟨X, hX⟩ : ∃ X, Hid (firE [F, G] = X) := ⟨_, Lib.hid rfl⟩
      rw [hX.out] at he
      obtain ⟨u, hu⟩ : ∃ u, Hid (wr.alloc (.cells #[.string s, .int .i64 v, .int .i64 m] 69) = u) := ⟨_, Lib.hid rfl⟩
      have hbu : Below wr.heap.size wr u := by rw [← hu.out]; exact (Below.refl _ _).alloc (Nat.le_refl _) _
      have HWu := Lib.hid (HW.out.step (w' := u) ⟨es, n, (hbu.block r HW.out.lr).trans HMW.out, HKM⟩ (BelowE.of hbu (Nat.le_refl _)))
      have HBu : Hid (BelowE r w.heap.size w u) := Lib.hid (HB.out.trans (BelowE.of hbu HB.out.size))
      have hc := each1_MixVessel (k : Int) s v m F G X c p1 p2 p3 q r n es K K' u HWu.out.cc HWu.out.lc HWu.out.c1 HWu.out.c2 HWu.out.c3 HWu.out.cq ((hbu.block r HW.out.lr).trans HMW.out) HKM hs1 HWu.out.l1 HWu.out.l2 HWu.out.l3 HWu.out.lr HWu.out.lq HWu.out.n1 HWu.out.n2 HWu.out.n3 HWu.out.nqr hF hK' hG hX
      have HC := Lib.hid hc
      have nb2 : b ≠ wr.heap.size := by rcases HW.out.lb with e | e; (subst e; simp at hkL); omega
      clear hmw hKM hs1 q0 q1 q2 hc hg hA hbu
      rcases ezN X with ⟨hz0, hzb⟩ | ⟨hz0, hzb⟩
      · have hE2 : Hid (lst_MixVessel K' (L.drop (k + 1)) = E) := Lib.hid (by rw [if_pos hz0.out] at he; exact he)
        clear he hz
        have hzb2 := hzb.out
        go_wp2_with fail
        rw [hu.out]
        refine HC.out.mono ?_
        rintro e x1 ⟨rfl, hmp, hb1⟩
        have HW1 := Lib.hid (HWu.out.step hmp hb1)
        have HB1 := Lib.hid (HBu.out.trans (hb1.mono HBu.out.size))
        clear hmp hb1
        go_wp2
        go_roundw
        case rel => exact ⟨k + 1, K', by omega, by go_num, hE2, HW1, HB1⟩
        case measure => simp [intOf]; omega
      · have hr : Hid (E = X) := Lib.hid (by rw [if_neg hz0.out] at he; exact he.symm)
        clear he hz
        have hzb2 := hzb.out
        go_wp2_with fail
        rw [hu.out]
        refine HC.out.mono ?_
        rintro e x1 ⟨rfl, hmp, hb1⟩
        have HB1 := Lib.hid (HBu.out.trans (hb1.mono HBu.out.size))
        clear hmp hb1
        go_wp2
        go_ret2
        exact ⟨(k : Int), by rw [hr.out]; rfl, HB1.out⟩
    · have hkk : k = len := by omega
      have hr : Hid (E = 0) := Lib.hid (by rw [← hz.out, List.drop_of_length_le (by have := hlen.out; omega)]; rfl)
      clear hz hkk
      go_wp2
      go_ret2
      exact ⟨0, by rw [hr.out]; rfl, HB.out⟩
theorem each_MixVessel (L : List Ve) (A : Option Addr) (b off cap len p1 p2 p3 q r : Nat) (E : Int) (w : World) (hA : Hid (len = 0 ∨ A = some ⟨b, off, none⟩)) (hlen : Hid (len = L.length)) (hl : len ≤ 1000000) (hsz : Hid (∀ g ∈ L, g.nm.size ≤ 1000000)) (HW : Hid (∀ w', Below w.heap.size w w' → ∀ c, c < w'.heap.size → c ≠ r → w'.cell? ⟨c, 0, none⟩ = some (.func (.func 94) #[] #[.pointer (some ⟨p1, 0, none⟩), .pointer (some ⟨p2, 0, none⟩), .pointer (some ⟨p3, 0, none⟩)]) → NmW_MixVessel c p1 p2 p3 q r b off L [] w')) (lr : r < w.heap.size) (hE : Hid (lst_MixVessel [] L = E)) :
    Calls Try.prog 93 #[.slice A len cap, .func (.func 94) #[] #[.pointer (some ⟨p1, 0, none⟩), .pointer (some ⟨p2, 0, none⟩), .pointer (some ⟨p3, 0, none⟩)]] w fun e w' => e = .returned (.int .i64 E) ∧ BelowE r w.heap.size w w' := by
  have o1 : w.heap.size ≠ r := by omega
  go_enter Try.func93, Try.ntmps93
  go_wp2_with fail
  refine (num_MixVessel L A b off cap len w.heap.size p1 p2 p3 q r E _ hA hlen hl hsz (Lib.hid (HW.out _ belA w.heap.size (by simp) o1 (by simp [go_sem]))) hE).mono ?_
  rintro e x1 ⟨i, rfl, hb1⟩
  have hB1 : BelowE r w.heap.size w x1 := (BelowE.of (N := w.heap.size) (show Below w.heap.size w _ from (Below.refl _ _).alloc (Nat.le_refl _) _) (Nat.le_refl _)).trans (hb1.mono (by simp))
  have HB := Lib.hid hB1
  clear hb1 hB1
  go_wp2
  go_ret
  exact ⟨rfl, HB.out⟩
set_option maxRecDepth 100000 in
set_option maxHeartbeats 2000000 in
theorem named_MixVessel (L : List Ve) (A : Option Addr) (cap len : Nat) (E : Int) (w : World) (hlen : Hid (len = L.length)) (hl : len ≤ 1000000) (hsz : Hid (∀ g ∈ L, g.nm.size ≤ 1000000)) (HP : Hid (SlRows veV 3 w A L)) (hE : Hid (lst_MixVessel [] L = E)) :
    Calls Try.prog 60 #[.slice A len cap, .func (.func 59) #[] #[], .func (.func 61) #[] #[]] w fun e w' => e = .returned (.int .i64 E) ∧ Below w.heap.size w w' := by
  obtain ⟨b, off, hA, hlb, hP⟩ : ∃ b off, Hid (len = 0 ∨ A = some ⟨b, off, none⟩) ∧ Hid (L = [] ∨ b < w.heap.size) ∧ Hid (RowsAt veV 3 w b off L) := by
    rcases HP.out with e | ⟨b, off, e1, e2, e3⟩
    · exact ⟨0, 0, Lib.hid (.inl (by rw [hlen.out, e]; rfl)), Lib.hid (.inl e), Lib.hid (by subst e; intro k hk; exact absurd hk (by simp))⟩
    · exact ⟨b, off, Lib.hid (.inr e1), Lib.hid (.inr e2), Lib.hid e3⟩
  clear HP
  go_enter Try.func60, Try.ntmps60
  go_wp2_with fail
  refine (Names_is _).mono ?_
  rintro e x1 ⟨q, r, rfl, cq, cm, nqr, gq, gr, lq, lr, hb1⟩
  have z1 := hb1.size
  simp at z1 gq gr
  have d2 : x1.cell? ⟨w.heap.size, 0, none⟩ = some (.func (.func 59) #[] #[]) := by rw [(bcell hb1).1 _ _ (by simp; omega)]; simp [go_sem, cP]
  have d3 : x1.cell? ⟨w.heap.size + 1, 0, none⟩ = some (.func (.func 61) #[] #[]) := by rw [(bcell hb1).1 _ _ (by simp)]; simp [go_sem, cP]
  have hB1 : Below w.heap.size w x1 := belA
  have HB1 := Lib.hid hB1
  have CM := Lib.hid cm
  have CQ := Lib.hid cq
  have D2 := Lib.hid d2
  have D3 := Lib.hid d3
  clear hb1 cm cq d2 d3 hB1
  go_wp2_with fail
  obtain ⟨u, hu⟩ : ∃ u, Hid (x1.alloc (.cells #[.func (.func 114) #[] #[.pointer (some ⟨q, 0, none⟩)]] 165) = u) := ⟨_, Lib.hid rfl⟩
  have zu : u.heap.size = x1.heap.size + 1 := by rw [← hu.out]; simp
  have hbu : Below x1.heap.size x1 u := by rw [← hu.out]; exact (Below.refl _ _).alloc (Nat.le_refl _) _
  have g1 : u.cell? ⟨x1.heap.size, 0, none⟩ = some (.func (.func 114) #[] #[.pointer (some ⟨q, 0, none⟩)]) := by rw [← hu.out]; simp [go_sem]
  have HW : Hid (∀ w', Below u.heap.size u w' → ∀ c, c < w'.heap.size → c ≠ r → w'.cell? ⟨c, 0, none⟩ = some (.func (.func 94) #[] #[.pointer (some ⟨x1.heap.size, 0, none⟩), .pointer (some ⟨w.heap.size, 0, none⟩), .pointer (some ⟨w.heap.size + 1, 0, none⟩)]) → NmW_MixVessel c x1.heap.size w.heap.size (w.heap.size + 1) q r b off L [] w') := Lib.hid fun w' hb c hc hn hcc => by
    have z := hb.size
    have cell : ∀ b i, b < x1.heap.size → w'.cell? ⟨b, i, none⟩ = x1.cell? ⟨b, i, none⟩ := fun b i h => (hb.cell (p := ⟨b, i, none⟩) (by show b < _; omega)).trans (hbu.cell (p := ⟨b, i, none⟩) h)
    exact ⟨hcc, (hb.cell (p := ⟨x1.heap.size, 0, none⟩) (by show x1.heap.size < _; omega)).trans g1, (cell _ _ (by omega)).trans D2.out, (cell _ _ (by omega)).trans D3.out, (cell _ _ lq).trans CQ.out, ⟨#[], 0, ((hb.block r (by omega)).trans (hbu.block r lr)).trans CM.out, KeyMap.nil⟩,
      by
        rcases hlb.out with e | e
        · subst e; intro k hk; exact absurd hk (by simp)
        · exact fun k hk i hi => ((cell _ _ (by omega)).trans (HB1.out.cell (p := ⟨b, _, none⟩) e)).trans (hP.out k hk i hi), hc, by omega, by omega, by omega, by omega, by omega, hlb.out.imp id (fun e => by omega), hn, by omega, by omega, by omega, nqr, hlb.out.imp id (fun e => by omega)⟩
  rw [hu.out]
  have lru : r < u.heap.size := by omega
  clear g1
  refine (each_MixVessel L A b off cap len x1.heap.size w.heap.size (w.heap.size + 1) q r E u hA hlen hl hsz HW lru hE).mono ?_
  rintro e x2 ⟨rfl, hb2⟩
  have HB2 : Hid (Below w.heap.size w x2) := Lib.hid ((HB1.out.trans (hbu.mono HB1.out.size)).trans ((hb2.mono (show w.heap.size ≤ u.heap.size by omega)).below (by omega)))
  clear hb2
  go_wp2
  go_ret
  exact ⟨rfl, HB2.out⟩
/-- MixSource. -/
structure So where
  nm : ByteArray
  gx : Int
  gh : Int
  ct : Int
  am : Int
instance : Inhabited So := ⟨⟨⟨#[]⟩, 0, 0, 0, 0⟩⟩
def soV (g : So) : List Value := [.string g.nm, .int .i64 g.gx, .int .i64 g.gh, .int .i64 g.ct, .int .i64 g.am]
theorem soV_at {w : World} {b off : Nat} {L : List So} (h : RowsAt soV 5 w b off L) {k : Nat} (hk : k < L.length) : w.cell? ⟨b, off + k * 5, none⟩ = some (.string L[k].nm) ∧ w.cell? ⟨b, off + k * 5 + 1, none⟩ = some (.int .i64 L[k].gx) ∧ w.cell? ⟨b, off + k * 5 + 2, none⟩ = some (.int .i64 L[k].gh) ∧ w.cell? ⟨b, off + k * 5 + 3, none⟩ = some (.int .i64 L[k].ct) ∧ w.cell? ⟨b, off + k * 5 + 4, none⟩ = some (.int .i64 L[k].am) :=
  ⟨h k hk 0 (by omega), h k hk 1 (by omega), h k hk 2 (by omega), h k hk 3 (by omega), h k hk 4 (by omega)⟩
/-- The error of a source's numbers. -/
def errMixSource (g : So) : Int := firE [gasE g.gx g.gh, rngE g.ct 0 1000, rngE g.am 0 10000000]
theorem errOf_MixSource (s : ByteArray) (gx gh ct am E : Int) (w : World) (hE : Hid (errMixSource ⟨s, gx, gh, ct, am⟩ = E)) : Calls Try.prog 123 #[.agg #[.string s, .int .i64 gx, .int .i64 gh, .int .i64 ct, .int .i64 am]] w fun e w' => e = .returned (.int .i64 E) ∧ Below w.heap.size w w' := by
  have hF : Hid (firE [gasE gx gh, rngE ct 0 1000, rngE am 0 10000000] = E) := hE
  obtain ⟨G, hG⟩ : ∃ G, Hid (gasE gx gh = G) := ⟨_, Lib.hid rfl⟩
  rw [hG.out] at hF
  clear hE
  go_enter Try.func123, Try.ntmps123
  go_upto_region 1 with (fail)
  refine wp_region_held_drew (S := (fun w' => w'.cell? ⟨w.heap.size, 1, none⟩ = some (.int .i64 gx) ∧ w'.cell? ⟨w.heap.size, 2, none⟩ = some (.int .i64 gh) ∧ w'.cell? ⟨w.heap.size, 3, none⟩ = some (.int .i64 ct) ∧ w'.cell? ⟨w.heap.size, 4, none⟩ = some (.int .i64 am))) (by kernel_rfl) (by simp [go_sem, cP, *]) (fun hHeld => ?_)
  refine tkA 0 3 rfl ?_
  refine tkA 1 4 rfl ?_
  refine tkA 3 6 rfl ?_
  refine tkA 4 7 rfl ?_
  refine tkA 6 9 rfl ?_
  refine tkA 7 10 rfl ?_
  refine rdA 2 rfl (fun K hK => ?_)
  go_simp
  refine (CheckGas_x gx gh G _ hG).mono ?_
  rintro e xw1 ⟨rfl, hbx1⟩
  have zx1 := hbx1.size
  try simp at zx1
  obtain ⟨x1A1, x1A2, x1A3, x1A4⟩ : xw1.cell? ⟨w.heap.size, 1, none⟩ = some (.int .i64 gx) ∧ xw1.cell? ⟨w.heap.size, 2, none⟩ = some (.int .i64 gh) ∧ xw1.cell? ⟨w.heap.size, 3, none⟩ = some (.int .i64 ct) ∧ xw1.cell? ⟨w.heap.size, 4, none⟩ = some (.int .i64 am) := by refine ⟨?_, ?_, ?_, ?_⟩ <;> (rw [bc1 hbx1]; simp [go_sem, cP, *])
  obtain ⟨x1o0, x1n0⟩ : w.heap.size < xw1.heap.size ∧ xw1.heap.size ≠ w.heap.size := by refine ⟨?_, ?_⟩ <;> omega
  have hBx1 : Below w.heap.size w xw1 := belA
  clear hbx1 
  go_wp2_with fail
  refine hK.out _ _ (by simp [go_sem, cP, *]) (fun hHeld => ?_)
  clear hK K
  try simp only [Act.put, sA, sB, sC]
  refine rdA 5 rfl (fun K hK => ?_)
  go_simp
  refine (cRange_any _ _ _ _).mono ?_
  rintro e wq ⟨rfl, rfl⟩
  go_wp2_with fail
  refine hK.out _ _ (by simp [go_sem, cP, *]) (fun hHeld => ?_)
  clear hK K
  try simp only [Act.put, sA, sB, sC]
  refine rdA 8 rfl (fun K hK => ?_)
  go_simp
  refine (cRange_any _ _ _ _).mono ?_
  rintro e wq ⟨rfl, rfl⟩
  go_wp2_with fail
  refine hK.out _ _ (by simp [go_sem, cP, *]) (fun hHeld => ?_)
  clear hK K
  try simp only [Act.put, sA, sB, sC]
  refine rdA 9 rfl (fun K hK => ?_)
  go_simp
  go_wp2_with fail
  refine hK.out _ _ (by simp [go_sem, cP, *]) (fun hHeld => ?_)
  clear hK K
  try simp only [Act.put, sA, sB, sC]
  refine rdA 10 rfl (fun K hK => ?_)
  go_simp
  refine (cF3x G (rngE ct 0 1000) (rngE am 0 10000000) E _ _ hF (by simp [go_sem]) (by simp [go_sem]) (by simp [go_sem])).mono ?_
  rintro e wq ⟨rfl, rfl⟩
  go_wp2_with fail
  refine hK.out _ _ (by simp [go_sem, cP, *]) (fun hHeld => ?_)
  clear hK K
  try simp only [Act.put, sA, sB, sC]
  refine tkA 11 2 rfl ?_
  refine wpAnyH_done (by kernel_rfl) ?_ _
  go_wp2
  go_ret
  exact ⟨rfl, belA⟩
theorem nameOf_MixSource (s : ByteArray) (gx gh ct am : Int) (w : World) : Calls Try.prog 121 #[.agg #[.string s, .int .i64 gx, .int .i64 gh, .int .i64 ct, .int .i64 am]] w fun e w' => e = .returned (.string s) ∧ Below w.heap.size w w' := by
  go_enter Try.func121, Try.ntmps121
  go_wp2
  go_ret
  exact ⟨rfl, belA⟩
set_option maxRecDepth 100000 in
set_option maxHeartbeats 4000000 in
theorem named1_MixSource (s : ByteArray) (gx gh ct am F G E : Int) (p1 p2 p3 q r n : Nat) (es : Array MapEntry) (Kn Kn' : List ByteArray) (w : World) (c1 : w.cell? ⟨p1, 0, none⟩ = some (.func (.func 114) #[] #[.pointer (some ⟨q, 0, none⟩)])) (c2 : w.cell? ⟨p2, 0, none⟩ = some (.func (.func 121) #[] #[])) (c3 : w.cell? ⟨p3, 0, none⟩ = some (.func (.func 123) #[] #[]))
    (cq : w.cell? ⟨q, 0, none⟩ = some (.map (some r))) (hm : w.heap[r]? = some (.map es n)) (HK : Hid (KeyMap Kn es)) (hs : s.size ≤ 1000000) (l1 : p1 < w.heap.size) (l2 : p2 < w.heap.size) (l3 : p3 < w.heap.size) (lr : r < w.heap.size) (lq : q < w.heap.size) (n1 : p1 ≠ r) (n2 : p2 ≠ r) (n3 : p3 ≠ r) (nqr : q ≠ r) (hF : Hid (nmsE Kn s = F)) (hK' : Hid (nmsK Kn s = Kn')) (hG : Hid (errMixSource ⟨s, gx, gh, ct, am⟩ = G)) (hE : Hid (firE [F, G] = E)) :
    Calls Try.prog 133 #[.agg #[.string s, .int .i64 gx, .int .i64 gh, .int .i64 ct, .int .i64 am], .pointer (some ⟨p1, 0, none⟩), .pointer (some ⟨p2, 0, none⟩), .pointer (some ⟨p3, 0, none⟩)] w (NStep r E Kn' w) := by
  have k1 : p1 ≠ w.heap.size := by omega
  have k2 : p2 ≠ w.heap.size := by omega
  have k3 : p3 ≠ w.heap.size := by omega
  go_enter Try.func133, Try.ntmps133
  go_upto_region 1 with (fail)
  refine wp_region_held_drew (S := (fun w' => w'.cell? ⟨p1, 0, none⟩ = some (.func (.func 114) #[] #[.pointer (some ⟨q, 0, none⟩)]) ∧ w'.cell? ⟨p2, 0, none⟩ = some (.func (.func 121) #[] #[]) ∧ w'.cell? ⟨p3, 0, none⟩ = some (.func (.func 123) #[] #[]) ∧ w'.cell? ⟨w.heap.size, 0, none⟩ = some (.string s) ∧ w'.cell? ⟨w.heap.size, 1, none⟩ = some (.int .i64 gx) ∧ w'.cell? ⟨w.heap.size, 2, none⟩ = some (.int .i64 gh) ∧ w'.cell? ⟨w.heap.size, 3, none⟩ = some (.int .i64 ct) ∧ w'.cell? ⟨w.heap.size, 4, none⟩ = some (.int .i64 am))) (by kernel_rfl) (by simp [go_sem, cP, *]) (fun hHeld => ?_)
  refine tkA 0 6 rfl ?_
  refine tkA 1 7 rfl ?_
  refine tkA 2 8 rfl ?_
  refine tkA 5 11 rfl ?_
  refine tkA 6 12 rfl ?_
  refine rdA 3 rfl (fun K hK => ?_)
  go_simp
  refine (nameOf_MixSource s gx gh ct am _).mono ?_
  rintro e y0 ⟨rfl, hb0'⟩
  obtain ⟨hb0, zz0⟩ : Below w.heap.size w y0 ∧ w.heap.size + 1 ≤ y0.heap.size := ⟨belA, by have := hb0'.size; simp at this; omega⟩
  have d0_0 : y0.cell? ⟨p1, 0, none⟩ = some (.func (.func 114) #[] #[.pointer (some ⟨q, 0, none⟩)]) := by rw [(bcell hb0').1 _ _ (by first | (simp; done) | (simp; omega) | omega)]; simp [go_sem, cP, *]
  have d0_1 : y0.cell? ⟨p2, 0, none⟩ = some (.func (.func 121) #[] #[]) := by rw [(bcell hb0').1 _ _ (by first | (simp; done) | (simp; omega) | omega)]; simp [go_sem, cP, *]
  have d0_2 : y0.cell? ⟨p3, 0, none⟩ = some (.func (.func 123) #[] #[]) := by rw [(bcell hb0').1 _ _ (by first | (simp; done) | (simp; omega) | omega)]; simp [go_sem, cP, *]
  have d0_3 : y0.cell? ⟨w.heap.size, 0, none⟩ = some (.string s) := by rw [(bcell hb0').1 _ _ (by first | (simp; done) | (simp; omega) | omega)]; simp [go_sem, cP, *]
  have d0_4 : y0.cell? ⟨w.heap.size, 1, none⟩ = some (.int .i64 gx) := by rw [(bcell hb0').1 _ _ (by first | (simp; done) | (simp; omega) | omega)]; simp [go_sem, cP, *]
  have d0_5 : y0.cell? ⟨w.heap.size, 2, none⟩ = some (.int .i64 gh) := by rw [(bcell hb0').1 _ _ (by first | (simp; done) | (simp; omega) | omega)]; simp [go_sem, cP, *]
  have d0_6 : y0.cell? ⟨w.heap.size, 3, none⟩ = some (.int .i64 ct) := by rw [(bcell hb0').1 _ _ (by first | (simp; done) | (simp; omega) | omega)]; simp [go_sem, cP, *]
  have d0_7 : y0.cell? ⟨w.heap.size, 4, none⟩ = some (.int .i64 am) := by rw [(bcell hb0').1 _ _ (by first | (simp; done) | (simp; omega) | omega)]; simp [go_sem, cP, *]
  have HB0 := Lib.hid hb0
  have hq0 := (hb0.cell (p := ⟨q, 0, none⟩) lq).trans cq
  have hm0 := (hb0.block r lr).trans hm
  clear hb0 hb0'
  have e1 : p1 < y0.heap.size := by omega
  have e2 : p2 < y0.heap.size := by omega
  have e3 : p3 < y0.heap.size := by omega
  have er : r < y0.heap.size := by omega
  have eq : q < y0.heap.size := by omega
  have ew : w.heap.size < y0.heap.size := by omega
  have nw : w.heap.size ≠ r := by omega
  go_wp2_with fail
  refine hK.out _ _ (by simp [go_sem, cP, *]) (fun hHeld => ?_)
  clear hK K
  try simp only [Act.put, sA, sB, sC]
  refine rdA 4 rfl (fun K hK => ?_)
  go_simp
  refine (names1_any s F q r n es Kn Kn' _ hq0 hm0 HK hs er eq nqr hF hK').mono ?_
  rintro e x1 ⟨rfl, hmp, hb1⟩
  have d1_0 : x1.cell? ⟨p1, 0, none⟩ = some (.func (.func 114) #[] #[.pointer (some ⟨q, 0, none⟩)]) := (hb1.cell (i := 0) (b := p1) e1 n1).trans d0_0
  have d1_1 : x1.cell? ⟨p2, 0, none⟩ = some (.func (.func 121) #[] #[]) := (hb1.cell (i := 0) (b := p2) e2 n2).trans d0_1
  have d1_2 : x1.cell? ⟨p3, 0, none⟩ = some (.func (.func 123) #[] #[]) := (hb1.cell (i := 0) (b := p3) e3 n3).trans d0_2
  have d1_3 : x1.cell? ⟨w.heap.size, 0, none⟩ = some (.string s) := (hb1.cell (i := 0) (b := w.heap.size) ew nw).trans d0_3
  have d1_4 : x1.cell? ⟨w.heap.size, 1, none⟩ = some (.int .i64 gx) := (hb1.cell (i := 1) (b := w.heap.size) ew nw).trans d0_4
  have d1_5 : x1.cell? ⟨w.heap.size, 2, none⟩ = some (.int .i64 gh) := (hb1.cell (i := 2) (b := w.heap.size) ew nw).trans d0_5
  have d1_6 : x1.cell? ⟨w.heap.size, 3, none⟩ = some (.int .i64 ct) := (hb1.cell (i := 3) (b := w.heap.size) ew nw).trans d0_6
  have d1_7 : x1.cell? ⟨w.heap.size, 4, none⟩ = some (.int .i64 am) := (hb1.cell (i := 4) (b := w.heap.size) ew nw).trans d0_7
  have hB1 : BelowE r w.heap.size w x1 := (BelowE.of HB0.out (Nat.le_refl _)).trans (hb1.mono HB0.out.size)
  have HB1 := Lib.hid hB1
  have HMP := Lib.hid hmp
  have z1 := hb1.size
  try simp at z1
  clear hb1 hB1 hmp hq0 hm0 d0_0 d0_1 d0_2 d0_3 d0_4 d0_5 d0_6 d0_7
  have m1 : p1 < x1.heap.size := by omega
  have m2 : p2 < x1.heap.size := by omega
  have m3 : p3 < x1.heap.size := by omega
  have mw : w.heap.size < x1.heap.size := by omega
  go_wp2_with fail
  refine hK.out _ _ (by simp [go_sem, cP, *]) (fun hHeld => ?_)
  clear hK K
  try simp only [Act.put, sA, sB, sC]
  refine rdA 7 rfl (fun K hK => ?_)
  go_simp
  refine (errOf_MixSource s gx gh ct am G _ hG).mono ?_
  rintro e x2 ⟨rfl, hb2⟩
  have d2_0 : x2.cell? ⟨p1, 0, none⟩ = some (.func (.func 114) #[] #[.pointer (some ⟨q, 0, none⟩)]) := by rw [bc1 hb2]; simp [go_sem, cP, *]
  have d2_1 : x2.cell? ⟨p2, 0, none⟩ = some (.func (.func 121) #[] #[]) := by rw [bc1 hb2]; simp [go_sem, cP, *]
  have d2_2 : x2.cell? ⟨p3, 0, none⟩ = some (.func (.func 123) #[] #[]) := by rw [bc1 hb2]; simp [go_sem, cP, *]
  have d2_3 : x2.cell? ⟨w.heap.size, 0, none⟩ = some (.string s) := by rw [bc1 hb2]; simp [go_sem, cP, *]
  have d2_4 : x2.cell? ⟨w.heap.size, 1, none⟩ = some (.int .i64 gx) := by rw [bc1 hb2]; simp [go_sem, cP, *]
  have d2_5 : x2.cell? ⟨w.heap.size, 2, none⟩ = some (.int .i64 gh) := by rw [bc1 hb2]; simp [go_sem, cP, *]
  have d2_6 : x2.cell? ⟨w.heap.size, 3, none⟩ = some (.int .i64 ct) := by rw [bc1 hb2]; simp [go_sem, cP, *]
  have d2_7 : x2.cell? ⟨w.heap.size, 4, none⟩ = some (.int .i64 am) := by rw [bc1 hb2]; simp [go_sem, cP, *]
  have hB2 : Below x1.heap.size x1 x2 := belA
  have HB2 := Lib.hid hB2
  have z2 := hB2.size
  clear hb2 hB2
  have t1 : p1 < x2.heap.size := by omega
  have t2 : p2 < x2.heap.size := by omega
  have t3 : p3 < x2.heap.size := by omega
  have tw : w.heap.size < x2.heap.size := by omega
  go_wp2_with fail
  refine hK.out _ _ (by simp [go_sem, cP, *]) (fun hHeld => ?_)
  clear hK K
  try simp only [Act.put, sA, sB, sC]
  refine rdA 8 rfl (fun K hK => ?_)
  go_simp
  go_wp2_with fail
  refine hK.out _ _ (by simp [go_sem, cP, *]) (fun hHeld => ?_)
  clear hK K
  try simp only [Act.put, sA, sB, sC]
  refine rdA 9 rfl (fun K hK => ?_)
  go_simp
  refine (cF2y F G E _ _ hE (by simp [go_sem]) (by simp [go_sem])).mono ?_
  rintro e w' ⟨rfl, rfl⟩
  go_wp2_with fail
  refine hK.out _ _ (by simp [go_sem, cP, *]) (fun hHeld => ?_)
  clear hK K
  try simp only [Act.put, sA, sB, sC]
  refine tkA 10 5 rfl ?_
  refine wpAnyH_done (by kernel_rfl) ?_ _

  go_wp2
  go_ret
  refine ⟨rfl, ?_, ?_⟩
  · obtain ⟨es', n', h1, h2⟩ := HMP.out
    have hlt : r < x1.heap.size := by omega
    exact ⟨es', n', by rw [← h1]; exact (show Below x1.heap.size x1 _ from HB2.out.trans ((show Below x2.heap.size x2 _ from belA).mono z2)).block r hlt, h2⟩
  · exact HB1.out.trans (BelowE.of (show Below x1.heap.size x1 _ from HB2.out.trans ((show Below x2.heap.size x2 _ from belA).mono z2)) (by have := HB1.out.size; omega))
theorem each1_MixSource (i : Int) (s : ByteArray) (gx gh ct am F G E : Int) (c p1 p2 p3 q r n : Nat) (es : Array MapEntry) (Kn Kn' : List ByteArray) (w : World) (cc : w.cell? ⟨c, 0, none⟩ = some (.func (.func 133) #[] #[.pointer (some ⟨p1, 0, none⟩), .pointer (some ⟨p2, 0, none⟩), .pointer (some ⟨p3, 0, none⟩)])) (lc : c < w.heap.size) (c1 : w.cell? ⟨p1, 0, none⟩ = some (.func (.func 114) #[] #[.pointer (some ⟨q, 0, none⟩)])) (c2 : w.cell? ⟨p2, 0, none⟩ = some (.func (.func 121) #[] #[])) (c3 : w.cell? ⟨p3, 0, none⟩ = some (.func (.func 123) #[] #[]))
    (cq : w.cell? ⟨q, 0, none⟩ = some (.map (some r))) (hm : w.heap[r]? = some (.map es n)) (HK : Hid (KeyMap Kn es)) (hs : s.size ≤ 1000000) (l1 : p1 < w.heap.size) (l2 : p2 < w.heap.size) (l3 : p3 < w.heap.size) (lr : r < w.heap.size) (lq : q < w.heap.size) (n1 : p1 ≠ r) (n2 : p2 ≠ r) (n3 : p3 ≠ r) (nqr : q ≠ r) (hF : Hid (nmsE Kn s = F)) (hK' : Hid (nmsK Kn s = Kn')) (hG : Hid (errMixSource ⟨s, gx, gh, ct, am⟩ = G)) (hE : Hid (firE [F, G] = E)) :
    Calls Try.prog 138 #[.int .i64 i, .agg #[.string s, .int .i64 gx, .int .i64 gh, .int .i64 ct, .int .i64 am], .pointer (some ⟨c, 0, none⟩)] w (NStep r E Kn' w) := by
  have kc : c ≠ w.heap.size := by omega
  have HM := Lib.hid hm
  clear hm
  go_enter Try.func138, Try.ntmps138
  go_wp2_with fail
  obtain ⟨u, hu⟩ : ∃ u, Hid (w.alloc (.cells #[.string s, .int .i64 gx, .int .i64 gh, .int .i64 ct, .int .i64 am] 164) = u) := ⟨_, Lib.hid rfl⟩
  rw [hu.out]
  have hbu : Below w.heap.size w u := by rw [← hu.out]; exact (Below.refl _ _).alloc (Nat.le_refl _) _
  have zu : u.heap.size = w.heap.size + 1 := by rw [← hu.out]; simp
  refine (named1_MixSource s gx gh ct am F G E p1 p2 p3 q r n es Kn Kn' u ((hbu.cell (p := ⟨p1, 0, none⟩) l1).trans c1) ((hbu.cell (p := ⟨p2, 0, none⟩) l2).trans c2) ((hbu.cell (p := ⟨p3, 0, none⟩) l3).trans c3) ((hbu.cell (p := ⟨q, 0, none⟩) lq).trans cq) ((hbu.block r lr).trans HM.out) HK hs (by omega) (by omega) (by omega) (by omega) (by omega) n1 n2 n3 nqr hF hK' hG hE).mono ?_
  rintro e x1 ⟨rfl, hmp, hb1⟩
  have HB1 : Hid (BelowE r w.heap.size w x1) := Lib.hid ((BelowE.of hbu (Nat.le_refl _)).trans (hb1.mono hbu.size))
  have HMP := Lib.hid hmp
  clear hb1 hmp hbu
  go_wp2
  go_ret
  exact ⟨rfl, HMP.out, HB1.out⟩
/-- The error of such elements behind names. -/
def lst_MixSource : List ByteArray → List So → Int
  | _, [] => 0
  | K, g :: r => if firE [nmsE K g.nm, errMixSource g] = 0 then lst_MixSource (nmsK K g.nm) r else firE [nmsE K g.nm, errMixSource g]
theorem lst_MixSource_at {K : List ByteArray} {L : List So} {k : Nat} (hk : k < L.length) : lst_MixSource K (L.drop k) = if firE [nmsE K L[k].nm, errMixSource L[k]] = 0 then lst_MixSource (nmsK K L[k].nm) (L.drop (k + 1)) else firE [nmsE K L[k].nm, errMixSource L[k]] := by
  rw [List.drop_eq_getElem_cons hk]; rfl
/-- All that the walk over elements needs of the world: the closures' cells and the map. -/
structure NmW_MixSource (c p1 p2 p3 q r b : Nat) (off : Nat) (L : List So) (K : List ByteArray) (w : World) : Prop where
  cc : w.cell? ⟨c, 0, none⟩ = some (.func (.func 133) #[] #[.pointer (some ⟨p1, 0, none⟩), .pointer (some ⟨p2, 0, none⟩), .pointer (some ⟨p3, 0, none⟩)])
  c1 : w.cell? ⟨p1, 0, none⟩ = some (.func (.func 114) #[] #[.pointer (some ⟨q, 0, none⟩)])
  c2 : w.cell? ⟨p2, 0, none⟩ = some (.func (.func 121) #[] #[])
  c3 : w.cell? ⟨p3, 0, none⟩ = some (.func (.func 123) #[] #[])
  cq : w.cell? ⟨q, 0, none⟩ = some (.map (some r))
  map : ∃ es n, w.heap[r]? = some (.map es n) ∧ KeyMap K es
  rows : RowsAt soV 5 w b off L
  lc : c < w.heap.size
  l1 : p1 < w.heap.size
  l2 : p2 < w.heap.size
  l3 : p3 < w.heap.size
  lr : r < w.heap.size
  lq : q < w.heap.size
  lb : L = [] ∨ b < w.heap.size
  nc : c ≠ r
  n1 : p1 ≠ r
  n2 : p2 ≠ r
  n3 : p3 ≠ r
  nqr : q ≠ r
  nb : L = [] ∨ b ≠ r
theorem NmW_MixSource.step {c p1 p2 p3 q r b off : Nat} {L : List So} {K K' : List ByteArray} {w w' : World} (h : NmW_MixSource c p1 p2 p3 q r b off L K w) (hm : ∃ es n, w'.heap[r]? = some (.map es n) ∧ KeyMap K' es) (hb : BelowE r w.heap.size w w') : NmW_MixSource c p1 p2 p3 q r b off L K' w' := by
  have z := hb.size
  refine ⟨(hb.cell h.lc h.nc).trans h.cc, (hb.cell h.l1 h.n1).trans h.c1, (hb.cell h.l2 h.n2).trans h.c2, (hb.cell h.l3 h.n3).trans h.c3, (hb.cell h.lq h.nqr).trans h.cq, hm, ?_, by have := h.lc; omega, by have := h.l1; omega, by have := h.l2; omega, by have := h.l3; omega, by have := h.lr; omega, by have := h.lq; omega, h.lb.imp id (fun e => by omega), h.nc, h.n1, h.n2, h.n3, h.nqr, h.nb⟩
  rcases h.lb with e | e
  · subst e; intro k hk; exact absurd hk (by simp)
  · rcases h.nb with e2 | e2
    · subst e2; intro k hk; exact absurd hk (by simp)
    · exact h.rows.belowX hb e e2
set_option maxRecDepth 100000 in
set_option maxHeartbeats 2000000 in
theorem num_MixSource (L : List So) (A : Option Addr) (b off cap len c p1 p2 p3 q r : Nat) (E : Int) (w : World) (hA : Hid (len = 0 ∨ A = some ⟨b, off, none⟩)) (hlen : Hid (len = L.length)) (hl : len ≤ 1000000) (hsz : Hid (∀ g ∈ L, g.nm.size ≤ 1000000)) (HW : Hid (NmW_MixSource c p1 p2 p3 q r b off L [] w)) (hE : Hid (lst_MixSource [] L = E)) :
    Calls Try.prog 137 #[.slice A len cap, .func (.func 138) #[] #[.pointer (some ⟨c, 0, none⟩)]] w (NumE r E w) := by
  go_enter Try.func137, Try.ntmps137
  go_wp2
  go_loopw [11] (fun i wr => ∃ (k : Nat) (K : List ByteArray), k ≤ len ∧ i = .int .i64 k ∧ Hid (lst_MixSource K (L.drop k) = E) ∧ Hid (NmW_MixSource c p1 p2 p3 q r b off L K wr) ∧ Hid (BelowE r w.heap.size w wr)) (fun i _ => len - (intOf i).toNat)
  case atStart => exact ⟨0, [], by omega, rfl, by rw [List.drop_zero]; exact hE, HW, Lib.hid (BelowE.refl _ _ _)⟩
  case round =>
    clear hE HW
    obtain ⟨k, K, hk, rfl, hz, HW, HB⟩ := hrel
    by_cases hkl : k < len
    · have hkL : k < L.length := by have := hlen.out; omega
      have kn : (k : Int) < (len : Int) := by omega
      have hA2 : A = some ⟨b, off, none⟩ := by rcases hA.out with e | e; (exact absurd e (by omega)); exact e
      subst hA2
      obtain ⟨c0, c1, c2, c3, c4⟩ := soV_at HW.out.rows hkL
      have he := hz.out
      rw [lst_MixSource_at hkL] at he
      have hs1 := hsz.out L[k] (List.getElem_mem hkL)
      obtain ⟨s, q0⟩ : ∃ x, Hid (L[k].nm = x) := ⟨_, Lib.hid rfl⟩
      obtain ⟨gx, q1⟩ : ∃ x, Hid (L[k].gx = x) := ⟨_, Lib.hid rfl⟩
      obtain ⟨gh, q2⟩ : ∃ x, Hid (L[k].gh = x) := ⟨_, Lib.hid rfl⟩
      obtain ⟨ct, q3⟩ : ∃ x, Hid (L[k].ct = x) := ⟨_, Lib.hid rfl⟩
      obtain ⟨am, q4⟩ : ∃ x, Hid (L[k].am = x) := ⟨_, Lib.hid rfl⟩
      have hg : L[k] = ⟨s, gx, gh, ct, am⟩ := by rw [← q0.out, ← q1.out, ← q2.out, ← q3.out, ← q4.out]
      rw [hg] at he
      rw [q0.out] at c0 hs1
      rw [q1.out] at c1
      rw [q2.out] at c2
      rw [q3.out] at c3
      rw [q4.out] at c4
      simp only at he
      obtain ⟨es, n, hmw, hKM⟩ := HW.out.map
      have HMW := Lib.hid hmw
      have HKM := Lib.hid hKM
      obtain ⟨F, hF⟩ : ∃ F, Hid (nmsE K s = F) := ⟨_, Lib.hid rfl⟩
      obtain ⟨G, hG⟩ : ∃ G, Hid (errMixSource ⟨s, gx, gh, ct, am⟩ = G) := ⟨_, Lib.hid rfl⟩
      obtain ⟨K', hK'⟩ : ∃ K', Hid (nmsK K s = K') := ⟨_, Lib.hid rfl⟩
      rw [hF.out, hK'.out, hG.out] at he
      obtain ⟨X, hX⟩ : ∃ X, Hid (firE [F, G] = X) := ⟨_, Lib.hid rfl⟩
      rw [hX.out] at he
      obtain ⟨u, hu⟩ : ∃ u, Hid (wr.alloc (.cells #[.string s, .int .i64 gx, .int .i64 gh, .int .i64 ct, .int .i64 am] 164) = u) := ⟨_, Lib.hid rfl⟩
      have hbu : Below wr.heap.size wr u := by rw [← hu.out]; exact (Below.refl _ _).alloc (Nat.le_refl _) _
      have HWu := Lib.hid (HW.out.step (w' := u) ⟨es, n, (hbu.block r HW.out.lr).trans HMW.out, HKM⟩ (BelowE.of hbu (Nat.le_refl _)))
      have HBu : Hid (BelowE r w.heap.size w u) := Lib.hid (HB.out.trans (BelowE.of hbu HB.out.size))
      have hc := each1_MixSource (k : Int) s gx gh ct am F G X c p1 p2 p3 q r n es K K' u HWu.out.cc HWu.out.lc HWu.out.c1 HWu.out.c2 HWu.out.c3 HWu.out.cq ((hbu.block r HW.out.lr).trans HMW.out) HKM hs1 HWu.out.l1 HWu.out.l2 HWu.out.l3 HWu.out.lr HWu.out.lq HWu.out.n1 HWu.out.n2 HWu.out.n3 HWu.out.nqr hF hK' hG hX
      have HC := Lib.hid hc
      have nb2 : b ≠ wr.heap.size := by rcases HW.out.lb with e | e; (subst e; simp at hkL); omega
      clear hmw hKM hs1 q0 q1 q2 q3 q4 hc hg hA hbu
      rcases ezN X with ⟨hz0, hzb⟩ | ⟨hz0, hzb⟩
      · have hE2 : Hid (lst_MixSource K' (L.drop (k + 1)) = E) := Lib.hid (by rw [if_pos hz0.out] at he; exact he)
        clear he hz
        have hzb2 := hzb.out
        go_wp2_with fail
        rw [hu.out]
        refine HC.out.mono ?_
        rintro e x1 ⟨rfl, hmp, hb1⟩
        have HW1 := Lib.hid (HWu.out.step hmp hb1)
        have HB1 := Lib.hid (HBu.out.trans (hb1.mono HBu.out.size))
        clear hmp hb1
        go_wp2
        go_roundw
        case rel => exact ⟨k + 1, K', by omega, by go_num, hE2, HW1, HB1⟩
        case measure => simp [intOf]; omega
      · have hr : Hid (E = X) := Lib.hid (by rw [if_neg hz0.out] at he; exact he.symm)
        clear he hz
        have hzb2 := hzb.out
        go_wp2_with fail
        rw [hu.out]
        refine HC.out.mono ?_
        rintro e x1 ⟨rfl, hmp, hb1⟩
        have HB1 := Lib.hid (HBu.out.trans (hb1.mono HBu.out.size))
        clear hmp hb1
        go_wp2
        go_ret2
        exact ⟨(k : Int), by rw [hr.out]; rfl, HB1.out⟩
    · have hkk : k = len := by omega
      have hr : Hid (E = 0) := Lib.hid (by rw [← hz.out, List.drop_of_length_le (by have := hlen.out; omega)]; rfl)
      clear hz hkk
      go_wp2
      go_ret2
      exact ⟨0, by rw [hr.out]; rfl, HB.out⟩
theorem each_MixSource (L : List So) (A : Option Addr) (b off cap len p1 p2 p3 q r : Nat) (E : Int) (w : World) (hA : Hid (len = 0 ∨ A = some ⟨b, off, none⟩)) (hlen : Hid (len = L.length)) (hl : len ≤ 1000000) (hsz : Hid (∀ g ∈ L, g.nm.size ≤ 1000000)) (HW : Hid (∀ w', Below w.heap.size w w' → ∀ c, c < w'.heap.size → c ≠ r → w'.cell? ⟨c, 0, none⟩ = some (.func (.func 133) #[] #[.pointer (some ⟨p1, 0, none⟩), .pointer (some ⟨p2, 0, none⟩), .pointer (some ⟨p3, 0, none⟩)]) → NmW_MixSource c p1 p2 p3 q r b off L [] w')) (lr : r < w.heap.size) (hE : Hid (lst_MixSource [] L = E)) :
    Calls Try.prog 132 #[.slice A len cap, .func (.func 133) #[] #[.pointer (some ⟨p1, 0, none⟩), .pointer (some ⟨p2, 0, none⟩), .pointer (some ⟨p3, 0, none⟩)]] w fun e w' => e = .returned (.int .i64 E) ∧ BelowE r w.heap.size w w' := by
  have o1 : w.heap.size ≠ r := by omega
  go_enter Try.func132, Try.ntmps132
  go_wp2_with fail
  refine (num_MixSource L A b off cap len w.heap.size p1 p2 p3 q r E _ hA hlen hl hsz (Lib.hid (HW.out _ belA w.heap.size (by simp) o1 (by simp [go_sem]))) hE).mono ?_
  rintro e x1 ⟨i, rfl, hb1⟩
  have hB1 : BelowE r w.heap.size w x1 := (BelowE.of (N := w.heap.size) (show Below w.heap.size w _ from (Below.refl _ _).alloc (Nat.le_refl _) _) (Nat.le_refl _)).trans (hb1.mono (by simp))
  have HB := Lib.hid hB1
  clear hb1 hB1
  go_wp2
  go_ret
  exact ⟨rfl, HB.out⟩
set_option maxRecDepth 100000 in
set_option maxHeartbeats 2000000 in
theorem named_MixSource (L : List So) (A : Option Addr) (cap len : Nat) (E : Int) (w : World) (hlen : Hid (len = L.length)) (hl : len ≤ 1000000) (hsz : Hid (∀ g ∈ L, g.nm.size ≤ 1000000)) (HP : Hid (SlRows soV 5 w A L)) (hE : Hid (lst_MixSource [] L = E)) :
    Calls Try.prog 122 #[.slice A len cap, .func (.func 121) #[] #[], .func (.func 123) #[] #[]] w fun e w' => e = .returned (.int .i64 E) ∧ Below w.heap.size w w' := by
  obtain ⟨b, off, hA, hlb, hP⟩ : ∃ b off, Hid (len = 0 ∨ A = some ⟨b, off, none⟩) ∧ Hid (L = [] ∨ b < w.heap.size) ∧ Hid (RowsAt soV 5 w b off L) := by
    rcases HP.out with e | ⟨b, off, e1, e2, e3⟩
    · exact ⟨0, 0, Lib.hid (.inl (by rw [hlen.out, e]; rfl)), Lib.hid (.inl e), Lib.hid (by subst e; intro k hk; exact absurd hk (by simp))⟩
    · exact ⟨b, off, Lib.hid (.inr e1), Lib.hid (.inr e2), Lib.hid e3⟩
  clear HP
  go_enter Try.func122, Try.ntmps122
  go_wp2_with fail
  refine (Names_is _).mono ?_
  rintro e x1 ⟨q, r, rfl, cq, cm, nqr, gq, gr, lq, lr, hb1⟩
  have z1 := hb1.size
  simp at z1 gq gr
  have d2 : x1.cell? ⟨w.heap.size, 0, none⟩ = some (.func (.func 121) #[] #[]) := by rw [(bcell hb1).1 _ _ (by simp; omega)]; simp [go_sem, cP]
  have d3 : x1.cell? ⟨w.heap.size + 1, 0, none⟩ = some (.func (.func 123) #[] #[]) := by rw [(bcell hb1).1 _ _ (by simp)]; simp [go_sem, cP]
  have hB1 : Below w.heap.size w x1 := belA
  have HB1 := Lib.hid hB1
  have CM := Lib.hid cm
  have CQ := Lib.hid cq
  have D2 := Lib.hid d2
  have D3 := Lib.hid d3
  clear hb1 cm cq d2 d3 hB1
  go_wp2_with fail
  obtain ⟨u, hu⟩ : ∃ u, Hid (x1.alloc (.cells #[.func (.func 114) #[] #[.pointer (some ⟨q, 0, none⟩)]] 165) = u) := ⟨_, Lib.hid rfl⟩
  have zu : u.heap.size = x1.heap.size + 1 := by rw [← hu.out]; simp
  have hbu : Below x1.heap.size x1 u := by rw [← hu.out]; exact (Below.refl _ _).alloc (Nat.le_refl _) _
  have g1 : u.cell? ⟨x1.heap.size, 0, none⟩ = some (.func (.func 114) #[] #[.pointer (some ⟨q, 0, none⟩)]) := by rw [← hu.out]; simp [go_sem]
  have HW : Hid (∀ w', Below u.heap.size u w' → ∀ c, c < w'.heap.size → c ≠ r → w'.cell? ⟨c, 0, none⟩ = some (.func (.func 133) #[] #[.pointer (some ⟨x1.heap.size, 0, none⟩), .pointer (some ⟨w.heap.size, 0, none⟩), .pointer (some ⟨w.heap.size + 1, 0, none⟩)]) → NmW_MixSource c x1.heap.size w.heap.size (w.heap.size + 1) q r b off L [] w') := Lib.hid fun w' hb c hc hn hcc => by
    have z := hb.size
    have cell : ∀ b i, b < x1.heap.size → w'.cell? ⟨b, i, none⟩ = x1.cell? ⟨b, i, none⟩ := fun b i h => (hb.cell (p := ⟨b, i, none⟩) (by show b < _; omega)).trans (hbu.cell (p := ⟨b, i, none⟩) h)
    exact ⟨hcc, (hb.cell (p := ⟨x1.heap.size, 0, none⟩) (by show x1.heap.size < _; omega)).trans g1, (cell _ _ (by omega)).trans D2.out, (cell _ _ (by omega)).trans D3.out, (cell _ _ lq).trans CQ.out, ⟨#[], 0, ((hb.block r (by omega)).trans (hbu.block r lr)).trans CM.out, KeyMap.nil⟩,
      by
        rcases hlb.out with e | e
        · subst e; intro k hk; exact absurd hk (by simp)
        · exact fun k hk i hi => ((cell _ _ (by omega)).trans (HB1.out.cell (p := ⟨b, _, none⟩) e)).trans (hP.out k hk i hi), hc, by omega, by omega, by omega, by omega, by omega, hlb.out.imp id (fun e => by omega), hn, by omega, by omega, by omega, nqr, hlb.out.imp id (fun e => by omega)⟩
  rw [hu.out]
  have lru : r < u.heap.size := by omega
  clear g1
  refine (each_MixSource L A b off cap len x1.heap.size w.heap.size (w.heap.size + 1) q r E u hA hlen hl hsz HW lru hE).mono ?_
  rintro e x2 ⟨rfl, hb2⟩
  have HB2 : Hid (Below w.heap.size w x2) := Lib.hid ((HB1.out.trans (hbu.mono HB1.out.size)).trans ((hb2.mono (show w.heap.size ≤ u.heap.size by omega)).below (by omega)))
  clear hb2
  go_wp2
  go_ret
  exact ⟨rfl, HB2.out⟩
theorem named2_MixSource (s s2 : ByteArray) (gx gh ct am gx2 gh2 ct2 am2 : Int) (b cap : Nat) (w : World) (a0 : w.cell? ⟨b, 0, none⟩ = some (.string s)) (a1 : w.cell? ⟨b, 1, none⟩ = some (.int .i64 gx)) (a2 : w.cell? ⟨b, 2, none⟩ = some (.int .i64 gh)) (a3 : w.cell? ⟨b, 3, none⟩ = some (.int .i64 ct)) (a4 : w.cell? ⟨b, 4, none⟩ = some (.int .i64 am)) (a5 : w.cell? ⟨b, 5, none⟩ = some (.string s2)) (a6 : w.cell? ⟨b, 6, none⟩ = some (.int .i64 gx2)) (a7 : w.cell? ⟨b, 7, none⟩ = some (.int .i64 gh2)) (a8 : w.cell? ⟨b, 8, none⟩ = some (.int .i64 ct2)) (a9 : w.cell? ⟨b, 9, none⟩ = some (.int .i64 am2)) (lb : b < w.heap.size)
    (hs : Hid (s.size ≤ 1000000 ∧ s2.size ≤ 1000000)) (hE : Hid (lst_MixSource [] [⟨s, gx, gh, ct, am⟩, ⟨s2, gx2, gh2, ct2, am2⟩] = 0)) :
    Calls Try.prog 122 #[.slice (some ⟨b, 0, none⟩) 2 cap, .func (.func 121) #[] #[], .func (.func 123) #[] #[]] w fun e w' => e = .returned (.int .i64 0) ∧ Below w.heap.size w w' :=
  named_MixSource [⟨s, gx, gh, ct, am⟩, ⟨s2, gx2, gh2, ct2, am2⟩] (some ⟨b, 0, none⟩) cap 2 0 w (Lib.hid rfl) (by omega) (Lib.hid (by simp; exact hs.out)) (Lib.hid (.inr ⟨b, 0, rfl, lb, fun k hk i hi => by
    match k, i, hk, hi with
    | 0, 0, _, _ => exact a0
    | 0, 1, _, _ => exact a1
    | 0, 2, _, _ => exact a2
    | 0, 3, _, _ => exact a3
    | 0, 4, _, _ => exact a4
    | 1, 0, _, _ => exact a5
    | 1, 1, _, _ => exact a6
    | 1, 2, _, _ => exact a7
    | 1, 3, _, _ => exact a8
    | 1, 4, _, _ => exact a9⟩)) hE
end Go.Proofs.Ytjkhjjmmkdfjmaa
