/- The statement of shotlinelaw08.SiteWinds: it returns true for every input. -/
import Derived.Test.YtojaompfffpofaaGreatZOArg
import Derived.Test.YtojaompfffpofaaGreatRows
import Derived.WalkKit
import Derived.ProofKit
import Derived.OpenShut
import Derived.Deep.DeepHandedRow
import Derived.Deep.DeepWitnessRowRef
import Derived.Lib.LaidIn
import Derived.Lib.SmallJoins
namespace Go.Proofs.YtojaompfffpofaaGreat.siteWinds
open Go.ChangeShapes Go.WideShapes Go.ChangeAt Go.RowKit Go.Joins Go.Deep
set_option linter.unusedVariables false
set_option linter.unusedSimpArgs false

theorem own : ownKnob Tryz.prog.godebug = none := by kernel_rfl
theorem cN0 : Tryz.prog.cellsOf 56 = 1 := by kernel_rfl
theorem cN1 : Tryz.prog.cellsOf 63 = 3 := by kernel_rfl
theorem cN2 : Tryz.prog.cellsOf 3 = 1 := by kernel_rfl
theorem cN3 : Tryz.prog.cellsOf 61 = 11 := by kernel_rfl
theorem cN4 : Tryz.prog.cellsOf 59 = 8 := by kernel_rfl
theorem cN5 : Tryz.prog.cellsOf 57 = 8 := by kernel_rfl
theorem cN6 : Tryz.prog.cellsOf 26 = 2 := by kernel_rfl
section
variable {H : Type} {enc : TypeId × Value → H} {W : World}
set_option maxRecDepth 100000 in
theorem rd0 {m : Nat} {cs : List Value} {x : DataW H × List MemPlace} (h : DataW.trod enc Tryz.prog W 0 (fun _ => true) true m 3 cs = some x) : ∃ (a0 : Int), cs = [.int .i64 a0] := by
  obtain ⟨a, e, _⟩ := DataW.trod_int Tryz.underlying3 h
  exact ⟨a, e⟩
set_option maxRecDepth 100000 in
theorem rd1 {m : Nat} {cs : List Value} {x : DataW H × List MemPlace} (h : DataW.trod enc Tryz.prog W 0 (fun _ => true) true m 63 cs = some x) : ∃ (a0 : Int) (a1 : Int) (a2 : Int), cs = [.int .i64 a0, .int .i64 a1, .int .i64 a2] := by
  obtain ⟨xs, n, _, _, hl, hlen, hf⟩ := DataW.trod_struct Tryz.underlying63 h
  have hl2 : cs.length = 3 := hl.trans (by simp [cN0, cN1, cN2, cN3, cN4, cN5, cN6])
  match xs, hlen with
  | [y0, y1, y2], _ =>
  match cs, hl2 with
  | [c0, c1, c2], _ =>
  have r0 : DataW.trod enc Tryz.prog W 0 (fun _ => true) true n 3 [c0] = some y0 := by simpa [cN0, cN1, cN2, cN3, cN4, cN5, cN6] using hf 0 _ rfl
  have r1 : DataW.trod enc Tryz.prog W 0 (fun _ => true) true n 3 [c1] = some y1 := by simpa [cN0, cN1, cN2, cN3, cN4, cN5, cN6] using hf 1 _ rfl
  have r2 : DataW.trod enc Tryz.prog W 0 (fun _ => true) true n 3 [c2] = some y2 := by simpa [cN0, cN1, cN2, cN3, cN4, cN5, cN6] using hf 2 _ rfl
  obtain ⟨a_0_0, e0⟩ := rd0 r0
  simp only [List.cons.injEq, and_true] at e0
  obtain ⟨a_1_0, e1⟩ := rd0 r1
  simp only [List.cons.injEq, and_true] at e1
  obtain ⟨a_2_0, e2⟩ := rd0 r2
  simp only [List.cons.injEq, and_true] at e2
  subst e0
  subst e1
  subst e2
  exact ⟨a_0_0, a_1_0, a_2_0, rfl⟩
set_option maxRecDepth 100000 in
theorem rd2 {m : Nat} {cs : List Value} {x : DataW H × List MemPlace} (h : DataW.trod enc Tryz.prog W 0 (fun _ => true) true m 56 cs = some x) : ∃ (L0 : List Wi) (A0 : Option Addr) (c0 : Nat), cs = [.slice A0 L0.length c0] ∧ (SlRows wiV 3 W A0 L0 ∧ (∀ g ∈ L0, (fun _ => True) g) ∧ (A0 = none → c0 = 0) ∧ L0.length ≤ c0 ∧ c0 ≤ maxLen) := by
  refine openSl (f := wiV) (n := 3) (wf := fun _ => True) Tryz.underlying56 (by simp [cN0, cN1, cN2, cN3, cN4, cN5, cN6]) (by decide) (fun _ => rfl) (fun h => ?_) h
  obtain ⟨a0, a1, a2, rfl⟩ := rd1 h
  exact ⟨(⟨a0, a1, a2⟩ : Wi), rfl, trivial⟩
set_option maxRecDepth 100000 in
theorem rd3 {m : Nat} {cs : List Value} {x : DataW H × List MemPlace} (h : DataW.trod enc Tryz.prog W 0 (fun _ => true) true m 57 cs = some x) : ∃ (a0 : Int) (a1 : Int) (a2 : Int) (a3 : Int) (a4 : Int) (a5 : Int) (a6 : Int) (a7 : Int), cs = [.int .i64 a0, .int .i64 a1, .int .i64 a2, .int .i64 a3, .int .i64 a4, .int .i64 a5, .int .i64 a6, .int .i64 a7] := by
  obtain ⟨hl, m2, hf⟩ := openAr (ce := 1) Tryz.underlying57 (by simp [cN0, cN1, cN2, cN3, cN4, cN5, cN6]) h
  have hl2 : cs.length = 8 := hl.trans (by simp [cN0, cN1, cN2, cN3, cN4, cN5, cN6])
  match cs, hl2 with
  | [c0, c1, c2, c3, c4, c5, c6, c7], _ =>
  obtain ⟨y0, q0⟩ := hf 0 (by decide)
  have r0 : DataW.trod enc Tryz.prog W 0 (fun _ => true) true m2 3 [c0] = some y0 := by simpa using q0
  obtain ⟨a_0_0, e0⟩ := rd0 r0
  simp only [List.cons.injEq, and_true] at e0
  obtain ⟨y1, q1⟩ := hf 1 (by decide)
  have r1 : DataW.trod enc Tryz.prog W 0 (fun _ => true) true m2 3 [c1] = some y1 := by simpa using q1
  obtain ⟨a_1_0, e1⟩ := rd0 r1
  simp only [List.cons.injEq, and_true] at e1
  obtain ⟨y2, q2⟩ := hf 2 (by decide)
  have r2 : DataW.trod enc Tryz.prog W 0 (fun _ => true) true m2 3 [c2] = some y2 := by simpa using q2
  obtain ⟨a_2_0, e2⟩ := rd0 r2
  simp only [List.cons.injEq, and_true] at e2
  obtain ⟨y3, q3⟩ := hf 3 (by decide)
  have r3 : DataW.trod enc Tryz.prog W 0 (fun _ => true) true m2 3 [c3] = some y3 := by simpa using q3
  obtain ⟨a_3_0, e3⟩ := rd0 r3
  simp only [List.cons.injEq, and_true] at e3
  obtain ⟨y4, q4⟩ := hf 4 (by decide)
  have r4 : DataW.trod enc Tryz.prog W 0 (fun _ => true) true m2 3 [c4] = some y4 := by simpa using q4
  obtain ⟨a_4_0, e4⟩ := rd0 r4
  simp only [List.cons.injEq, and_true] at e4
  obtain ⟨y5, q5⟩ := hf 5 (by decide)
  have r5 : DataW.trod enc Tryz.prog W 0 (fun _ => true) true m2 3 [c5] = some y5 := by simpa using q5
  obtain ⟨a_5_0, e5⟩ := rd0 r5
  simp only [List.cons.injEq, and_true] at e5
  obtain ⟨y6, q6⟩ := hf 6 (by decide)
  have r6 : DataW.trod enc Tryz.prog W 0 (fun _ => true) true m2 3 [c6] = some y6 := by simpa using q6
  obtain ⟨a_6_0, e6⟩ := rd0 r6
  simp only [List.cons.injEq, and_true] at e6
  obtain ⟨y7, q7⟩ := hf 7 (by decide)
  have r7 : DataW.trod enc Tryz.prog W 0 (fun _ => true) true m2 3 [c7] = some y7 := by simpa using q7
  obtain ⟨a_7_0, e7⟩ := rd0 r7
  simp only [List.cons.injEq, and_true] at e7
  subst e0
  subst e1
  subst e2
  subst e3
  subst e4
  subst e5
  subst e6
  subst e7
  exact ⟨a_0_0, a_1_0, a_2_0, a_3_0, a_4_0, a_5_0, a_6_0, a_7_0, rfl⟩
set_option maxRecDepth 100000 in
theorem rd4 {m : Nat} {cs : List Value} {x : DataW H × List MemPlace} (h : DataW.trod enc Tryz.prog W 0 (fun _ => true) true m 59 cs = some x) : ∃ (a0 : Int) (a1 : Int) (a2 : Int) (a3 : Int) (a4 : Int) (a5 : Int) (a6 : Int) (a7 : Int), cs = [.int .i64 a0, .int .i64 a1, .int .i64 a2, .int .i64 a3, .int .i64 a4, .int .i64 a5, .int .i64 a6, .int .i64 a7] := by
  obtain ⟨xs, n, _, _, hl, hlen, hf⟩ := DataW.trod_struct Tryz.underlying59 h
  have hl2 : cs.length = 8 := hl.trans (by simp [cN0, cN1, cN2, cN3, cN4, cN5, cN6])
  match xs, hlen with
  | [y0], _ =>
  match cs, hl2 with
  | [c0, c1, c2, c3, c4, c5, c6, c7], _ =>
  have r0 : DataW.trod enc Tryz.prog W 0 (fun _ => true) true n 57 [c0, c1, c2, c3, c4, c5, c6, c7] = some y0 := by simpa [cN0, cN1, cN2, cN3, cN4, cN5, cN6] using hf 0 _ rfl
  obtain ⟨a_0_0, a_0_1, a_0_2, a_0_3, a_0_4, a_0_5, a_0_6, a_0_7, e0⟩ := rd3 r0
  simp only [List.cons.injEq, and_true] at e0
  obtain ⟨rfl, rfl, rfl, rfl, rfl, rfl, rfl, rfl⟩ := e0
  exact ⟨a_0_0, a_0_1, a_0_2, a_0_3, a_0_4, a_0_5, a_0_6, a_0_7, rfl⟩
set_option maxRecDepth 100000 in
theorem rd5 {m : Nat} {cs : List Value} {x : DataW H × List MemPlace} (h : DataW.trod enc Tryz.prog W 0 (fun _ => true) true m 26 cs = some x) : ∃ (a0 : Int) (a1 : Int), cs = [.int .i64 a0, .int .i64 a1] := by
  obtain ⟨xs, n, _, _, hl, hlen, hf⟩ := DataW.trod_struct Tryz.underlying26 h
  have hl2 : cs.length = 2 := hl.trans (by simp [cN0, cN1, cN2, cN3, cN4, cN5, cN6])
  match xs, hlen with
  | [y0, y1], _ =>
  match cs, hl2 with
  | [c0, c1], _ =>
  have r0 : DataW.trod enc Tryz.prog W 0 (fun _ => true) true n 3 [c0] = some y0 := by simpa [cN0, cN1, cN2, cN3, cN4, cN5, cN6] using hf 0 _ rfl
  have r1 : DataW.trod enc Tryz.prog W 0 (fun _ => true) true n 3 [c1] = some y1 := by simpa [cN0, cN1, cN2, cN3, cN4, cN5, cN6] using hf 1 _ rfl
  obtain ⟨a_0_0, e0⟩ := rd0 r0
  simp only [List.cons.injEq, and_true] at e0
  obtain ⟨a_1_0, e1⟩ := rd0 r1
  simp only [List.cons.injEq, and_true] at e1
  subst e0
  subst e1
  exact ⟨a_0_0, a_1_0, rfl⟩
set_option maxRecDepth 100000 in
theorem rd6 {m : Nat} {cs : List Value} {x : DataW H × List MemPlace} (h : DataW.trod enc Tryz.prog W 0 (fun _ => true) true m 61 cs = some x) : ∃ (a0 : Int) (a1 : Int) (a2 : Int) (a3 : Int) (a4 : Int) (a5 : Int) (a6 : Int) (a7 : Int) (a8 : Int) (a9 : Int) (a10 : Int), cs = [.int .i64 a0, .int .i64 a1, .int .i64 a2, .int .i64 a3, .int .i64 a4, .int .i64 a5, .int .i64 a6, .int .i64 a7, .int .i64 a8, .int .i64 a9, .int .i64 a10] := by
  obtain ⟨xs, n, _, _, hl, hlen, hf⟩ := DataW.trod_struct Tryz.underlying61 h
  have hl2 : cs.length = 11 := hl.trans (by simp [cN0, cN1, cN2, cN3, cN4, cN5, cN6])
  match xs, hlen with
  | [y0, y1, y2], _ =>
  match cs, hl2 with
  | [c0, c1, c2, c3, c4, c5, c6, c7, c8, c9, c10], _ =>
  have r0 : DataW.trod enc Tryz.prog W 0 (fun _ => true) true n 59 [c0, c1, c2, c3, c4, c5, c6, c7] = some y0 := by simpa [cN0, cN1, cN2, cN3, cN4, cN5, cN6] using hf 0 _ rfl
  have r1 : DataW.trod enc Tryz.prog W 0 (fun _ => true) true n 3 [c8] = some y1 := by simpa [cN0, cN1, cN2, cN3, cN4, cN5, cN6] using hf 1 _ rfl
  have r2 : DataW.trod enc Tryz.prog W 0 (fun _ => true) true n 26 [c9, c10] = some y2 := by simpa [cN0, cN1, cN2, cN3, cN4, cN5, cN6] using hf 2 _ rfl
  obtain ⟨a_0_0, a_0_1, a_0_2, a_0_3, a_0_4, a_0_5, a_0_6, a_0_7, e0⟩ := rd4 r0
  simp only [List.cons.injEq, and_true] at e0
  obtain ⟨a_1_0, e1⟩ := rd0 r1
  simp only [List.cons.injEq, and_true] at e1
  obtain ⟨a_2_0, a_2_1, e2⟩ := rd5 r2
  simp only [List.cons.injEq, and_true] at e2
  obtain ⟨rfl, rfl, rfl, rfl, rfl, rfl, rfl, rfl⟩ := e0
  subst e1
  obtain ⟨rfl, rfl⟩ := e2
  exact ⟨a_0_0, a_0_1, a_0_2, a_0_3, a_0_4, a_0_5, a_0_6, a_0_7, a_1_0, a_2_0, a_2_1, rfl⟩
end

set_option maxRecDepth 100000 in
theorem contract (H : Type) (enc : TypeId × Value → H) (W : World) (base : Nat) (args : Array Value) (ds gs : List (DataW H)) (before : List MemPlace)
    (hval : ∀ (j : Nat) t v, Tryz.f6.params[j]? = some t → args[j]? = some v → Value.okWide Tryz.prog W .any base t v)
    (hW : DataW.Whole enc Tryz.prog Tryz.f6.params.toList Rows.siteWindsSpec.vars false W args.toList ds gs before) (hsh : W.ShapedOpen Tryz.prog) :
    Calls Tryz.prog 6 args W fun e W' => ∃ v, e = .returned v ∧ Rows.siteWindsSpec.post enc Tryz.prog Tryz.f6 false true false false W args v W' := by
  have hW' := hW
  obtain ⟨p, q, hA0, hV, rfl, hfz, hnd⟩ := hW
  have hA : DataW.TrodAll enc Tryz.prog W 0 (fun _ => true) true Tryz.f6.params.toList args.toList ds p := hA0
  rw [Tryz.params6] at hA hval
  obtain ⟨v0, vs0, d0, ds0, p0, q0, hargs, rfl, rfl, h0, r0⟩ := trodAll_cons hA
  obtain ⟨v1, vs1, d1, ds1, p1, q1, rfl, rfl, rfl, h1, r1⟩ := trodAll_cons r0
  obtain ⟨rfl, rfl, rfl⟩ := trodAll_nil r1
  obtain rfl : args = #[v0, v1] := by cases args; simp_all
  obtain ⟨rfl, rfl⟩ := trodVars_none hV
  clear hA0
  have hk0 := h0
  obtain ⟨fu0, hf0⟩ := h0
  obtain ⟨u0, k0, l0, rfl⟩ := okWide_slice Tryz.underlying56 (hval 0 56 v0 rfl rfl)
  obtain ⟨L0_0, A0_0, c0_0, e0, z0_0⟩ := rd2 (by simpa [Value.cells] using hf0)
  simp only [List.cons.injEq, and_true, Value.slice.injEq] at e0
  obtain ⟨ea0, rfl, ec0⟩ := e0
  have fa0 := ea0.symm
  have fc0 := ec0.symm
  subst fa0 fc0
  have hk1 := h1
  obtain ⟨fu1, hf1⟩ := h1
  obtain ⟨u1, rfl, hsz1⟩ := okWide_struct Tryz.underlying61 (hval 1 61 v1 rfl rfl)
  obtain ⟨a1_0, a1_1, a1_2, a1_3, a1_4, a1_5, a1_6, a1_7, a1_8, a1_9, a1_10, e1⟩ := rd6 (by simpa [Value.cells] using hf1)
  have e1' : u1 = #[.int .i64 a1_0, .int .i64 a1_1, .int .i64 a1_2, .int .i64 a1_3, .int .i64 a1_4, .int .i64 a1_5, .int .i64 a1_6, .int .i64 a1_7, .int .i64 a1_8, .int .i64 a1_9, .int .i64 a1_10] := by cases u1; simp_all
  subst e1'
  refine (siteWinds_any L0_0 A0_0 c0_0 a1_0 a1_1 a1_2 a1_3 a1_4 a1_5 a1_6 a1_7 a1_8 a1_9 a1_10 W (by have := z0_0.2.2.2; unfold maxLen at *; omega) z0_0.2.2.1 z0_0.1).mono fun e W' ⟨he, hb⟩ => ?_
  subst he
  exact ⟨_, rfl, _, _, _, [], _, [], hW', trodAll_mk1 (shut_bool Tryz.underlying4 _), (trodAll_cons_mk (Below.trod laidOutA (by kernel_rfl) (of_decide_eq_true (by kernel_rfl)) hk0 hb (fun x hx => by have := hW'.lt x; simp [hx] at this; exact this)) (trodAll_cons_mk (Below.trod laidOutA (by kernel_rfl) (of_decide_eq_true (by kernel_rfl)) hk1 hb (fun x hx => by have := hW'.lt x; simp [hx] at this; exact this)) trodAll_mk0)), rfl, hb.frame _, fun h => by cases h⟩

/-- A world for the witness: the settled one. -/
noncomputable def laidWorld (os : Os) : World :=
  let N := (World.settled Tryz.prog os).heap.size
  let w0 := World.holding Tryz.prog os ⟨#[], #[], []⟩
  let put (h : Array Obj) (g : Nat) (cs : Array Value) : Array Obj := h.modify g fun
    | .cells _ t frozen => .cells cs t frozen
    | o => o
  { w0 with heap := w0.heap }
set_option maxRecDepth 1000000 in
theorem laid_met (os : Os) : laidMet Tryz.prog Rows.siteWindsRow.laid ((laidWorld os).forCall (fun _ _ => 0) ⟨#[], #[.slice none 0 0, .agg #[.int .i64 0, .int .i64 0, .int .i64 0, .int .i64 0, .int .i64 0, .int .i64 0, .int .i64 0, .int .i64 0, .int .i64 0, .int .i64 0, .int .i64 0]], []⟩).memory :=
  laidMet_of_run' 8 (by kernel_rfl) (by kernel_rfl)
set_option maxRecDepth 1000000 in
theorem reads (os : Os) {H : Type} (enc : TypeId × Value → H) : ∃ places, DataW.whole enc Tryz.prog ((laidWorld os).forCall (fun _ _ => 0) ⟨#[], #[.slice none 0 0, .agg #[.int .i64 0, .int .i64 0, .int .i64 0, .int .i64 0, .int .i64 0, .int .i64 0, .int .i64 0, .int .i64 0, .int .i64 0, .int .i64 0, .int .i64 0]], []⟩).memory Tryz.f6.params.toList Rows.siteWindsSpec.vars false (#[.slice none 0 0, .agg #[.int .i64 0, .int .i64 0, .int .i64 0, .int .i64 0, .int .i64 0, .int .i64 0, .int .i64 0, .int .i64 0, .int .i64 0, .int .i64 0, .int .i64 0]] : Array Value).toList 8 = some ([.nil, .agg [.agg [.agg [.lit (.int .i64 0), .lit (.int .i64 0), .lit (.int .i64 0), .lit (.int .i64 0), .lit (.int .i64 0), .lit (.int .i64 0), .lit (.int .i64 0), .lit (.int .i64 0)]], .lit (.int .i64 0), .agg [.lit (.int .i64 0), .lit (.int .i64 0)]]], [], places) :=
  ⟨[], by kernel_rfl⟩

set_option maxRecDepth 1000000 in
theorem lifted (os : Os) (started : os.Started) (H : Type) (enc : TypeId × Value → H) (F : Stop.Interp) :
    ReturnsInHanded {} Tryz.checked os 6 .any ((OpenSpec.ofChange Rows.siteWindsSpec).preRow enc Tryz.prog Tryz.f6 Rows.siteWindsRow.domain false Rows.siteWindsRow.laid) (((OpenSpec.ofChange Rows.siteWindsSpec).at F).post enc Tryz.prog Tryz.f6 false true false false) := by
  obtain ⟨places, hx⟩ := reads os enc
  refine returnsInHanded_of_row (C := Tryz.checked) (s := OpenSpec.ofChange Rows.siteWindsSpec) own started (by kernel_rfl) Tryz.func6
    (witness_row_atRef (enc := enc) (C := Tryz.checked) false (laidWorld os) #[.slice none 0 0, .agg #[.int .i64 0, .int .i64 0, .int .i64 0, .int .i64 0, .int .i64 0, .int .i64 0, .int .i64 0, .int .i64 0, .int .i64 0, .int .i64 0, .int .i64 0]] rfl (by kernel_rfl) (by kernel_rfl) (by kernel_rfl)
      (OpenSpec.preRow_of_cond 8 hx (by kernel_rfl) (fun k hk => by cases hk) (by kernel_rfl) (laid_met os))) ?_
  intro W base args ds gs before hval hW _ _ _ hL hsh _
  exact contract H enc W base args ds gs before hval hW hsh

theorem said : Rows.SiteWindsSaid :=
  OpenClaim.holds_of_cond 6 Tryz.f6 rfl rfl rfl rfl rfl rfl rfl ⟨rfl, rfl, rfl, rfl, rfl⟩ rfl rfl rfl rfl rfl (by kernel_rfl) Tryz.func6 (by kernel_rfl)
    (of_decide_eq_true (by kernel_rfl)) (by unfold Func.isWrapper; first | (rw [if_pos (by decide +kernel)]; kernel_rfl) | (rw [if_neg (by decide +kernel)]; exact ⟨rfl, rfl⟩))
    (fun os started H enc _ F => by rw [OpenClaim.pre_eq_preRow]; exact lifted os started H enc F)
end Go.Proofs.YtojaompfffpofaaGreat.siteWinds
