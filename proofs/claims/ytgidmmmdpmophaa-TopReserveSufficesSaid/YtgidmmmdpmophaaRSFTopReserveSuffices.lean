/- The statement of shotlinetop.TopReserveSuffices: it returns true for every input. -/
import Derived.Test.YtgidmmmdpmophaaRSFLawRf
import Derived.Test.YtgidmmmdpmophaaRSFArg
import Derived.Test.YtgidmmmdpmophaaRows
import Derived.WalkKit
import Derived.ProofKit
import Derived.OpenShut
import Derived.Deep.DeepHandedRow
import Derived.Deep.DeepWitnessRowRef
import Derived.Lib.LaidIn
import Derived.Lib.SmallJoins
namespace Go.Proofs.Ytgidmmmdpmophaa.topReserveSuffices
open Go.ChangeShapes Go.WideShapes Go.ChangeAt Go.RowKit Go.Joins Go.Deep
set_option linter.unusedVariables false
set_option linter.unusedSimpArgs false

theorem own : ownKnob Try.prog.godebug = none := by kernel_rfl
theorem cN0 : Try.prog.cellsOf 25 = 4 := by kernel_rfl
theorem cN1 : Try.prog.cellsOf 9 = 1 := by kernel_rfl
theorem cN2 : Try.prog.cellsOf 3 = 1 := by kernel_rfl
theorem cN3 : Try.prog.cellsOf 22 = 1 := by kernel_rfl
theorem cN4 : Try.prog.cellsOf 92 = 2 := by kernel_rfl
theorem cN5 : Try.prog.cellsOf 23 = 1 := by kernel_rfl
theorem cN6 : Try.prog.cellsOf 64 = 3 := by kernel_rfl
theorem cN7 : Try.prog.cellsOf 30 = 9 := by kernel_rfl
theorem cN8 : Try.prog.cellsOf 26 = 1 := by kernel_rfl
theorem cN9 : Try.prog.cellsOf 103 = 2 := by kernel_rfl
theorem cN10 : Try.prog.cellsOf 28 = 2 := by kernel_rfl
section
variable {H : Type} {enc : TypeId × Value → H} {W : World}
set_option maxRecDepth 100000 in
theorem rd0 {m : Nat} {cs : List Value} {x : DataW H × List MemPlace} (h : DataW.trod enc Try.prog W 0 (fun _ => true) true m 9 cs = some x) : ∃ (s0 : ByteArray), cs = [.string s0] ∧ (s0.size ≤ maxLen) := by
  obtain ⟨a, e, _, z⟩ := DataW.trod_string Try.underlying9 h
  exact ⟨a, e, z⟩
set_option maxRecDepth 100000 in
theorem rd1 {m : Nat} {cs : List Value} {x : DataW H × List MemPlace} (h : DataW.trod enc Try.prog W 0 (fun _ => true) true m 3 cs = some x) : ∃ (a0 : Int), cs = [.int .i64 a0] := by
  obtain ⟨a, e, _⟩ := DataW.trod_int Try.underlying3 h
  exact ⟨a, e⟩
set_option maxRecDepth 100000 in
theorem rd2 {m : Nat} {cs : List Value} {x : DataW H × List MemPlace} (h : DataW.trod enc Try.prog W 0 (fun _ => true) true m 92 cs = some x) : ∃ (a0 : Int) (a1 : Int), cs = [.int .i64 a0, .int .i64 a1] := by
  obtain ⟨xs, n, _, _, hl, hlen, hf⟩ := DataW.trod_struct Try.underlying92 h
  have hl2 : cs.length = 2 := hl.trans (by simp [cN0, cN1, cN2, cN3, cN4, cN5, cN6, cN7, cN8, cN9, cN10])
  match xs, hlen with
  | [y0, y1], _ =>
  match cs, hl2 with
  | [c0, c1], _ =>
  have r0 : DataW.trod enc Try.prog W 0 (fun _ => true) true n 3 [c0] = some y0 := by simpa [cN0, cN1, cN2, cN3, cN4, cN5, cN6, cN7, cN8, cN9, cN10] using hf 0 _ rfl
  have r1 : DataW.trod enc Try.prog W 0 (fun _ => true) true n 3 [c1] = some y1 := by simpa [cN0, cN1, cN2, cN3, cN4, cN5, cN6, cN7, cN8, cN9, cN10] using hf 1 _ rfl
  obtain ⟨a_0_0, e0⟩ := rd1 r0
  simp only [List.cons.injEq, and_true] at e0
  obtain ⟨a_1_0, e1⟩ := rd1 r1
  simp only [List.cons.injEq, and_true] at e1
  subst e0
  subst e1
  exact ⟨a_0_0, a_1_0, rfl⟩
set_option maxRecDepth 100000 in
theorem rd3 {m : Nat} {cs : List Value} {x : DataW H × List MemPlace} (h : DataW.trod enc Try.prog W 0 (fun _ => true) true m 22 cs = some x) : ∃ (L0 : List Ga) (A0 : Option Addr) (c0 : Nat), cs = [.slice A0 L0.length c0] ∧ (SlRows gaV 2 W A0 L0 ∧ (∀ g ∈ L0, (fun _ => True) g) ∧ (A0 = none → c0 = 0) ∧ L0.length ≤ c0 ∧ c0 ≤ maxLen) := by
  refine openSl (f := gaV) (n := 2) (wf := fun _ => True) Try.underlying22 (by simp [cN0, cN1, cN2, cN3, cN4, cN5, cN6, cN7, cN8, cN9, cN10]) (by decide) (fun _ => rfl) (fun h => ?_) h
  obtain ⟨a0, a1, rfl⟩ := rd2 h
  exact ⟨(⟨a0, a1⟩ : Ga), rfl, trivial⟩
set_option maxRecDepth 100000 in
theorem rd4 {m : Nat} {cs : List Value} {x : DataW H × List MemPlace} (h : DataW.trod enc Try.prog W 0 (fun _ => true) true m 64 cs = some x) : ∃ (a0 : Int) (a1 : Int) (a2 : Int), cs = [.int .i64 a0, .int .i64 a1, .int .i64 a2] := by
  obtain ⟨xs, n, _, _, hl, hlen, hf⟩ := DataW.trod_struct Try.underlying64 h
  have hl2 : cs.length = 3 := hl.trans (by simp [cN0, cN1, cN2, cN3, cN4, cN5, cN6, cN7, cN8, cN9, cN10])
  match xs, hlen with
  | [y0, y1, y2], _ =>
  match cs, hl2 with
  | [c0, c1, c2], _ =>
  have r0 : DataW.trod enc Try.prog W 0 (fun _ => true) true n 3 [c0] = some y0 := by simpa [cN0, cN1, cN2, cN3, cN4, cN5, cN6, cN7, cN8, cN9, cN10] using hf 0 _ rfl
  have r1 : DataW.trod enc Try.prog W 0 (fun _ => true) true n 3 [c1] = some y1 := by simpa [cN0, cN1, cN2, cN3, cN4, cN5, cN6, cN7, cN8, cN9, cN10] using hf 1 _ rfl
  have r2 : DataW.trod enc Try.prog W 0 (fun _ => true) true n 3 [c2] = some y2 := by simpa [cN0, cN1, cN2, cN3, cN4, cN5, cN6, cN7, cN8, cN9, cN10] using hf 2 _ rfl
  obtain ⟨a_0_0, e0⟩ := rd1 r0
  simp only [List.cons.injEq, and_true] at e0
  obtain ⟨a_1_0, e1⟩ := rd1 r1
  simp only [List.cons.injEq, and_true] at e1
  obtain ⟨a_2_0, e2⟩ := rd1 r2
  simp only [List.cons.injEq, and_true] at e2
  subst e0
  subst e1
  subst e2
  exact ⟨a_0_0, a_1_0, a_2_0, rfl⟩
set_option maxRecDepth 100000 in
theorem rd5 {m : Nat} {cs : List Value} {x : DataW H × List MemPlace} (h : DataW.trod enc Try.prog W 0 (fun _ => true) true m 23 cs = some x) : ∃ (L0 : List Le) (A0 : Option Addr) (c0 : Nat), cs = [.slice A0 L0.length c0] ∧ (SlRows leV 3 W A0 L0 ∧ (∀ g ∈ L0, (fun _ => True) g) ∧ (A0 = none → c0 = 0) ∧ L0.length ≤ c0 ∧ c0 ≤ maxLen) := by
  refine openSl (f := leV) (n := 3) (wf := fun _ => True) Try.underlying23 (by simp [cN0, cN1, cN2, cN3, cN4, cN5, cN6, cN7, cN8, cN9, cN10]) (by decide) (fun _ => rfl) (fun h => ?_) h
  obtain ⟨a0, a1, a2, rfl⟩ := rd4 h
  exact ⟨(⟨a0, a1, a2⟩ : Le), rfl, trivial⟩
set_option maxRecDepth 100000 in
theorem rd6 {m : Nat} {cs : List Value} {x : DataW H × List MemPlace} (h : DataW.trod enc Try.prog W 0 (fun _ => true) true m 25 cs = some x) : ∃ (s0 : ByteArray) (a1 : Int) (L2 : List Ga) (A2 : Option Addr) (c2 : Nat) (L3 : List Le) (A3 : Option Addr) (c3 : Nat), cs = [.string s0, .int .i64 a1, .slice A2 L2.length c2, .slice A3 L3.length c3] ∧ (s0.size ≤ maxLen) ∧ (SlRows gaV 2 W A2 L2 ∧ (∀ g ∈ L2, (fun _ => True) g) ∧ (A2 = none → c2 = 0) ∧ L2.length ≤ c2 ∧ c2 ≤ maxLen) ∧ (SlRows leV 3 W A3 L3 ∧ (∀ g ∈ L3, (fun _ => True) g) ∧ (A3 = none → c3 = 0) ∧ L3.length ≤ c3 ∧ c3 ≤ maxLen) := by
  obtain ⟨xs, n, _, _, hl, hlen, hf⟩ := DataW.trod_struct Try.underlying25 h
  have hl2 : cs.length = 4 := hl.trans (by simp [cN0, cN1, cN2, cN3, cN4, cN5, cN6, cN7, cN8, cN9, cN10])
  match xs, hlen with
  | [y0, y1, y2, y3], _ =>
  match cs, hl2 with
  | [c0, c1, c2, c3], _ =>
  have r0 : DataW.trod enc Try.prog W 0 (fun _ => true) true n 9 [c0] = some y0 := by simpa [cN0, cN1, cN2, cN3, cN4, cN5, cN6, cN7, cN8, cN9, cN10] using hf 0 _ rfl
  have r1 : DataW.trod enc Try.prog W 0 (fun _ => true) true n 3 [c1] = some y1 := by simpa [cN0, cN1, cN2, cN3, cN4, cN5, cN6, cN7, cN8, cN9, cN10] using hf 1 _ rfl
  have r2 : DataW.trod enc Try.prog W 0 (fun _ => true) true n 22 [c2] = some y2 := by simpa [cN0, cN1, cN2, cN3, cN4, cN5, cN6, cN7, cN8, cN9, cN10] using hf 2 _ rfl
  have r3 : DataW.trod enc Try.prog W 0 (fun _ => true) true n 23 [c3] = some y3 := by simpa [cN0, cN1, cN2, cN3, cN4, cN5, cN6, cN7, cN8, cN9, cN10] using hf 3 _ rfl
  obtain ⟨s_0_0, e0, z_0_0⟩ := rd0 r0
  simp only [List.cons.injEq, and_true] at e0
  obtain ⟨a_1_0, e1⟩ := rd1 r1
  simp only [List.cons.injEq, and_true] at e1
  obtain ⟨L_2_0, A_2_0, c_2_0, e2, z_2_0⟩ := rd3 r2
  simp only [List.cons.injEq, and_true] at e2
  obtain ⟨L_3_0, A_3_0, c_3_0, e3, z_3_0⟩ := rd5 r3
  simp only [List.cons.injEq, and_true] at e3
  subst e0
  subst e1
  subst e2
  subst e3
  exact ⟨s_0_0, a_1_0, L_2_0, A_2_0, c_2_0, L_3_0, A_3_0, c_3_0, rfl, z_0_0, z_2_0, z_3_0⟩
set_option maxRecDepth 100000 in
theorem rd7 {m : Nat} {cs : List Value} {x : DataW H × List MemPlace} (h : DataW.trod enc Try.prog W 0 (fun _ => true) true m 103 cs = some x) : ∃ (a0 : Int) (a1 : Int), cs = [.int .i64 a0, .int .i64 a1] := by
  obtain ⟨xs, n, _, _, hl, hlen, hf⟩ := DataW.trod_struct Try.underlying103 h
  have hl2 : cs.length = 2 := hl.trans (by simp [cN0, cN1, cN2, cN3, cN4, cN5, cN6, cN7, cN8, cN9, cN10])
  match xs, hlen with
  | [y0, y1], _ =>
  match cs, hl2 with
  | [c0, c1], _ =>
  have r0 : DataW.trod enc Try.prog W 0 (fun _ => true) true n 3 [c0] = some y0 := by simpa [cN0, cN1, cN2, cN3, cN4, cN5, cN6, cN7, cN8, cN9, cN10] using hf 0 _ rfl
  have r1 : DataW.trod enc Try.prog W 0 (fun _ => true) true n 3 [c1] = some y1 := by simpa [cN0, cN1, cN2, cN3, cN4, cN5, cN6, cN7, cN8, cN9, cN10] using hf 1 _ rfl
  obtain ⟨a_0_0, e0⟩ := rd1 r0
  simp only [List.cons.injEq, and_true] at e0
  obtain ⟨a_1_0, e1⟩ := rd1 r1
  simp only [List.cons.injEq, and_true] at e1
  subst e0
  subst e1
  exact ⟨a_0_0, a_1_0, rfl⟩
set_option maxRecDepth 100000 in
theorem rd8 {m : Nat} {cs : List Value} {x : DataW H × List MemPlace} (h : DataW.trod enc Try.prog W 0 (fun _ => true) true m 26 cs = some x) : ∃ (L0 : List Ox) (A0 : Option Addr) (c0 : Nat), cs = [.slice A0 L0.length c0] ∧ (SlRows oxV 2 W A0 L0 ∧ (∀ g ∈ L0, (fun _ => True) g) ∧ (A0 = none → c0 = 0) ∧ L0.length ≤ c0 ∧ c0 ≤ maxLen) := by
  refine openSl (f := oxV) (n := 2) (wf := fun _ => True) Try.underlying26 (by simp [cN0, cN1, cN2, cN3, cN4, cN5, cN6, cN7, cN8, cN9, cN10]) (by decide) (fun _ => rfl) (fun h => ?_) h
  obtain ⟨a0, a1, rfl⟩ := rd7 h
  exact ⟨(⟨a0, a1⟩ : Ox), rfl, trivial⟩
set_option maxRecDepth 100000 in
theorem rd9 {m : Nat} {cs : List Value} {x : DataW H × List MemPlace} (h : DataW.trod enc Try.prog W 0 (fun _ => true) true m 28 cs = some x) : ∃ (a0 : Int) (a1 : Int), cs = [.int .i64 a0, .int .i64 a1] := by
  obtain ⟨xs, n, _, _, hl, hlen, hf⟩ := DataW.trod_struct Try.underlying28 h
  have hl2 : cs.length = 2 := hl.trans (by simp [cN0, cN1, cN2, cN3, cN4, cN5, cN6, cN7, cN8, cN9, cN10])
  match xs, hlen with
  | [y0, y1], _ =>
  match cs, hl2 with
  | [c0, c1], _ =>
  have r0 : DataW.trod enc Try.prog W 0 (fun _ => true) true n 3 [c0] = some y0 := by simpa [cN0, cN1, cN2, cN3, cN4, cN5, cN6, cN7, cN8, cN9, cN10] using hf 0 _ rfl
  have r1 : DataW.trod enc Try.prog W 0 (fun _ => true) true n 3 [c1] = some y1 := by simpa [cN0, cN1, cN2, cN3, cN4, cN5, cN6, cN7, cN8, cN9, cN10] using hf 1 _ rfl
  obtain ⟨a_0_0, e0⟩ := rd1 r0
  simp only [List.cons.injEq, and_true] at e0
  obtain ⟨a_1_0, e1⟩ := rd1 r1
  simp only [List.cons.injEq, and_true] at e1
  subst e0
  subst e1
  exact ⟨a_0_0, a_1_0, rfl⟩
set_option maxRecDepth 100000 in
theorem rd10 {m : Nat} {cs : List Value} {x : DataW H × List MemPlace} (h : DataW.trod enc Try.prog W 0 (fun _ => true) true m 30 cs = some x) : ∃ (L0 : List Ox) (A0 : Option Addr) (c0 : Nat) (a1 : Int) (a2 : Int) (a3 : Int) (a4 : Int) (a5 : Int) (a6 : Int) (a7 : Int) (a8 : Int), cs = [.slice A0 L0.length c0, .int .i64 a1, .int .i64 a2, .int .i64 a3, .int .i64 a4, .int .i64 a5, .int .i64 a6, .int .i64 a7, .int .i64 a8] ∧ (SlRows oxV 2 W A0 L0 ∧ (∀ g ∈ L0, (fun _ => True) g) ∧ (A0 = none → c0 = 0) ∧ L0.length ≤ c0 ∧ c0 ≤ maxLen) := by
  obtain ⟨xs, n, _, _, hl, hlen, hf⟩ := DataW.trod_struct Try.underlying30 h
  have hl2 : cs.length = 9 := hl.trans (by simp [cN0, cN1, cN2, cN3, cN4, cN5, cN6, cN7, cN8, cN9, cN10])
  match xs, hlen with
  | [y0, y1, y2, y3, y4, y5, y6, y7], _ =>
  match cs, hl2 with
  | [c0, c1, c2, c3, c4, c5, c6, c7, c8], _ =>
  have r0 : DataW.trod enc Try.prog W 0 (fun _ => true) true n 26 [c0] = some y0 := by simpa [cN0, cN1, cN2, cN3, cN4, cN5, cN6, cN7, cN8, cN9, cN10] using hf 0 _ rfl
  have r1 : DataW.trod enc Try.prog W 0 (fun _ => true) true n 28 [c1, c2] = some y1 := by simpa [cN0, cN1, cN2, cN3, cN4, cN5, cN6, cN7, cN8, cN9, cN10] using hf 1 _ rfl
  have r2 : DataW.trod enc Try.prog W 0 (fun _ => true) true n 3 [c3] = some y2 := by simpa [cN0, cN1, cN2, cN3, cN4, cN5, cN6, cN7, cN8, cN9, cN10] using hf 2 _ rfl
  have r3 : DataW.trod enc Try.prog W 0 (fun _ => true) true n 3 [c4] = some y3 := by simpa [cN0, cN1, cN2, cN3, cN4, cN5, cN6, cN7, cN8, cN9, cN10] using hf 3 _ rfl
  have r4 : DataW.trod enc Try.prog W 0 (fun _ => true) true n 3 [c5] = some y4 := by simpa [cN0, cN1, cN2, cN3, cN4, cN5, cN6, cN7, cN8, cN9, cN10] using hf 4 _ rfl
  have r5 : DataW.trod enc Try.prog W 0 (fun _ => true) true n 3 [c6] = some y5 := by simpa [cN0, cN1, cN2, cN3, cN4, cN5, cN6, cN7, cN8, cN9, cN10] using hf 5 _ rfl
  have r6 : DataW.trod enc Try.prog W 0 (fun _ => true) true n 3 [c7] = some y6 := by simpa [cN0, cN1, cN2, cN3, cN4, cN5, cN6, cN7, cN8, cN9, cN10] using hf 6 _ rfl
  have r7 : DataW.trod enc Try.prog W 0 (fun _ => true) true n 3 [c8] = some y7 := by simpa [cN0, cN1, cN2, cN3, cN4, cN5, cN6, cN7, cN8, cN9, cN10] using hf 7 _ rfl
  obtain ⟨L_0_0, A_0_0, c_0_0, e0, z_0_0⟩ := rd8 r0
  simp only [List.cons.injEq, and_true] at e0
  obtain ⟨a_1_0, a_1_1, e1⟩ := rd9 r1
  simp only [List.cons.injEq, and_true] at e1
  obtain ⟨a_2_0, e2⟩ := rd1 r2
  simp only [List.cons.injEq, and_true] at e2
  obtain ⟨a_3_0, e3⟩ := rd1 r3
  simp only [List.cons.injEq, and_true] at e3
  obtain ⟨a_4_0, e4⟩ := rd1 r4
  simp only [List.cons.injEq, and_true] at e4
  obtain ⟨a_5_0, e5⟩ := rd1 r5
  simp only [List.cons.injEq, and_true] at e5
  obtain ⟨a_6_0, e6⟩ := rd1 r6
  simp only [List.cons.injEq, and_true] at e6
  obtain ⟨a_7_0, e7⟩ := rd1 r7
  simp only [List.cons.injEq, and_true] at e7
  subst e0
  obtain ⟨rfl, rfl⟩ := e1
  subst e2
  subst e3
  subst e4
  subst e5
  subst e6
  subst e7
  exact ⟨L_0_0, A_0_0, c_0_0, a_1_0, a_1_1, a_2_0, a_3_0, a_4_0, a_5_0, a_6_0, a_7_0, rfl, z_0_0⟩
end

set_option maxRecDepth 100000 in
theorem contract (H : Type) (enc : TypeId × Value → H) (W : World) (base : Nat) (args : Array Value) (ds gs : List (DataW H)) (before : List MemPlace)
    (hval : ∀ (j : Nat) t v, Try.f3.params[j]? = some t → args[j]? = some v → Value.okWide Try.prog W .any base t v)
    (hW : DataW.Whole enc Try.prog Try.f3.params.toList Rows.topReserveSufficesSpec.vars false W args.toList ds gs before) (hsh : W.ShapedOpen Try.prog) :
    Calls Try.prog 3 args W fun e W' => ∃ v, e = .returned v ∧ Rows.topReserveSufficesSpec.post enc Try.prog Try.f3 false true false false W args v W' := by
  have hW' := hW
  obtain ⟨p, q, hA0, hV, rfl, hfz, hnd⟩ := hW
  have hA : DataW.TrodAll enc Try.prog W 0 (fun _ => true) true Try.f3.params.toList args.toList ds p := hA0
  rw [Try.params3] at hA hval
  obtain ⟨v0, vs0, d0, ds0, p0, q0, hargs, rfl, rfl, h0, r0⟩ := trodAll_cons hA
  obtain ⟨v1, vs1, d1, ds1, p1, q1, rfl, rfl, rfl, h1, r1⟩ := trodAll_cons r0
  obtain ⟨v2, vs2, d2, ds2, p2, q2, rfl, rfl, rfl, h2, r2⟩ := trodAll_cons r1
  obtain ⟨rfl, rfl, rfl⟩ := trodAll_nil r2
  obtain rfl : args = #[v0, v1, v2] := by cases args; simp_all
  obtain ⟨rfl, rfl⟩ := trodVars_none hV
  clear hA0
  have hk0 := h0
  obtain ⟨fu0, hf0⟩ := h0
  obtain ⟨u0, rfl, hsz0⟩ := okWide_struct Try.underlying25 (hval 0 25 v0 rfl rfl)
  obtain ⟨s0_0, a0_1, L0_2, A0_2, c0_2, L0_3, A0_3, c0_3, e0, z0_0, z0_2, z0_3⟩ := rd6 (by simpa [Value.cells] using hf0)
  have e0' : u0 = #[.string s0_0, .int .i64 a0_1, .slice A0_2 L0_2.length c0_2, .slice A0_3 L0_3.length c0_3] := by cases u0; simp_all
  subst e0'
  have hk1 := h1
  obtain ⟨fu1, hf1⟩ := h1
  obtain ⟨u1, rfl, hsz1⟩ := okWide_struct Try.underlying30 (hval 1 30 v1 rfl rfl)
  obtain ⟨L1_0, A1_0, c1_0, a1_1, a1_2, a1_3, a1_4, a1_5, a1_6, a1_7, a1_8, e1, z1_0⟩ := rd10 (by simpa [Value.cells] using hf1)
  have e1' : u1 = #[.slice A1_0 L1_0.length c1_0, .int .i64 a1_1, .int .i64 a1_2, .int .i64 a1_3, .int .i64 a1_4, .int .i64 a1_5, .int .i64 a1_6, .int .i64 a1_7, .int .i64 a1_8] := by cases u1; simp_all
  subst e1'
  have hk2 := h2
  obtain ⟨fu2, hf2⟩ := h2
  obtain ⟨u2, rfl⟩ := okWide_int Try.underlying3 (hval 2 3 v2 rfl rfl)
  obtain ⟨a2_0, e2⟩ := rd1 (by simpa [Value.cells] using hf2)
  simp only [List.cons.injEq, and_true, Value.int.injEq, Value.bool.injEq, Value.string.injEq, Value.slice.injEq, true_and] at e2
  have e2' := e2.symm
  subst e2'
  refine (topReserveSuffices_any s0_0 a0_1 L0_2 A0_2 c0_2 L0_3 A0_3 c0_3 L1_0 A1_0 c1_0 a1_1 a1_2 a1_3 a1_4 a1_5 a1_6 a1_7 a1_8 a2_0 W (by have := z0_0; unfold maxLen at *; omega) (by have := z0_2.2.2.2; unfold maxLen at *; omega) z0_2.2.2.1 z0_2.1 (by have := z0_3.2.2.2; unfold maxLen at *; omega) z0_3.2.2.1 z0_3.1 (by have := z1_0.2.2.2; unfold maxLen at *; omega) z1_0.2.2.1 z1_0.1).mono fun e W' ⟨he, hb⟩ => ?_
  subst he
  exact ⟨_, rfl, _, _, _, [], _, [], hW', trodAll_mk1 (shut_bool Try.underlying4 _), (trodAll_cons_mk (Below.trod laidOutA (by kernel_rfl) (of_decide_eq_true (by kernel_rfl)) hk0 hb (fun x hx => by have := hW'.lt x; simp [hx] at this; exact this)) (trodAll_cons_mk (Below.trod laidOutA (by kernel_rfl) (of_decide_eq_true (by kernel_rfl)) hk1 hb (fun x hx => by have := hW'.lt x; simp [hx] at this; exact this)) (trodAll_cons_mk (Below.trod laidOutA (by kernel_rfl) (of_decide_eq_true (by kernel_rfl)) hk2 hb (fun x hx => by have := hW'.lt x; simp [hx] at this; exact this)) trodAll_mk0))), rfl, hb.frame _, fun h => by cases h⟩

/-- A world for the witness: the settled one. -/
noncomputable def laidWorld (os : Os) : World :=
  let N := (World.settled Try.prog os).heap.size
  let w0 := World.holding Try.prog os ⟨#[], #[], []⟩
  let put (h : Array Obj) (g : Nat) (cs : Array Value) : Array Obj := h.modify g fun
    | .cells _ t frozen => .cells cs t frozen
    | o => o
  { w0 with heap := w0.heap }
set_option maxRecDepth 1000000 in
theorem laid_met (os : Os) : laidMet Try.prog Rows.topReserveSufficesRow.laid ((laidWorld os).forCall (fun _ _ => 0) ⟨#[], #[.agg #[.string ⟨#[]⟩, .int .i64 0, .slice none 0 0, .slice none 0 0], .agg #[.slice none 0 0, .int .i64 0, .int .i64 0, .int .i64 0, .int .i64 0, .int .i64 0, .int .i64 0, .int .i64 0, .int .i64 0], .int .i64 0], []⟩).memory :=
  laidMet_of_run' 8 (by kernel_rfl) (by kernel_rfl)
set_option maxRecDepth 1000000 in
theorem reads (os : Os) {H : Type} (enc : TypeId × Value → H) : ∃ places, DataW.whole enc Try.prog ((laidWorld os).forCall (fun _ _ => 0) ⟨#[], #[.agg #[.string ⟨#[]⟩, .int .i64 0, .slice none 0 0, .slice none 0 0], .agg #[.slice none 0 0, .int .i64 0, .int .i64 0, .int .i64 0, .int .i64 0, .int .i64 0, .int .i64 0, .int .i64 0, .int .i64 0], .int .i64 0], []⟩).memory Try.f3.params.toList Rows.topReserveSufficesSpec.vars false (#[.agg #[.string ⟨#[]⟩, .int .i64 0, .slice none 0 0, .slice none 0 0], .agg #[.slice none 0 0, .int .i64 0, .int .i64 0, .int .i64 0, .int .i64 0, .int .i64 0, .int .i64 0, .int .i64 0, .int .i64 0], .int .i64 0] : Array Value).toList 8 = some ([.agg [.lit (.string []), .lit (.int .i64 0), .nil, .nil], .agg [.nil, .agg [.lit (.int .i64 0), .lit (.int .i64 0)], .lit (.int .i64 0), .lit (.int .i64 0), .lit (.int .i64 0), .lit (.int .i64 0), .lit (.int .i64 0), .lit (.int .i64 0)], .lit (.int .i64 0)], [], places) :=
  ⟨[], by kernel_rfl⟩

set_option maxRecDepth 1000000 in
theorem lifted (os : Os) (started : os.Started) (H : Type) (enc : TypeId × Value → H) (F : Stop.Interp) :
    ReturnsInHanded {} Try.checked os 3 .any ((OpenSpec.ofChange Rows.topReserveSufficesSpec).preRow enc Try.prog Try.f3 Rows.topReserveSufficesRow.domain false Rows.topReserveSufficesRow.laid) (((OpenSpec.ofChange Rows.topReserveSufficesSpec).at F).post enc Try.prog Try.f3 false true false false) := by
  obtain ⟨places, hx⟩ := reads os enc
  refine returnsInHanded_of_row (C := Try.checked) (s := OpenSpec.ofChange Rows.topReserveSufficesSpec) own started (by kernel_rfl) Try.func3
    (witness_row_atRef (enc := enc) (C := Try.checked) false (laidWorld os) #[.agg #[.string ⟨#[]⟩, .int .i64 0, .slice none 0 0, .slice none 0 0], .agg #[.slice none 0 0, .int .i64 0, .int .i64 0, .int .i64 0, .int .i64 0, .int .i64 0, .int .i64 0, .int .i64 0, .int .i64 0], .int .i64 0] rfl (by kernel_rfl) (by kernel_rfl) (by kernel_rfl)
      (OpenSpec.preRow_of_cond 8 hx (by kernel_rfl) (fun k hk => by cases hk) (by kernel_rfl) (laid_met os))) ?_
  intro W base args ds gs before hval hW _ _ _ hL hsh _
  exact contract H enc W base args ds gs before hval hW hsh

theorem said : Rows.TopReserveSufficesSaid :=
  OpenClaim.holds_of_cond 3 Try.f3 rfl rfl rfl rfl rfl rfl rfl ⟨rfl, rfl, rfl, rfl, rfl⟩ rfl rfl rfl rfl rfl (by kernel_rfl) Try.func3 (by kernel_rfl)
    (of_decide_eq_true (by kernel_rfl)) (by unfold Func.isWrapper; first | (rw [if_pos (by decide +kernel)]; kernel_rfl) | (rw [if_neg (by decide +kernel)]; exact ⟨rfl, rfl⟩))
    (fun os started H enc _ F => by rw [OpenClaim.pre_eq_preRow]; exact lifted os started H enc F)
end Go.Proofs.Ytgidmmmdpmophaa.topReserveSuffices
