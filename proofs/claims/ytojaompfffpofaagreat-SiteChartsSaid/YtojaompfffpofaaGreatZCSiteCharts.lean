/- The statement of shotlinelaw08.SiteCharts: it returns true for every input. -/
import Derived.Test.YtojaompfffpofaaGreatZCSLawSc
import Derived.Test.YtojaompfffpofaaGreatZCArg2
import Derived.Test.YtojaompfffpofaaGreatRows
import Derived.WalkKit
import Derived.ProofKit
import Derived.OpenShut
import Derived.Deep.DeepHandedRow
import Derived.Deep.DeepWitnessRowRef
import Derived.Lib.LaidIn
import Derived.Lib.SmallJoins
namespace Go.Proofs.YtojaompfffpofaaGreat.siteCharts
open Go.ChangeShapes Go.WideShapes Go.ChangeAt Go.RowKit Go.Joins Go.Deep
set_option linter.unusedVariables false
set_option linter.unusedSimpArgs false

theorem own : ownKnob Tryz.prog.godebug = none := by kernel_rfl
theorem cN0 : Tryz.prog.cellsOf 78 = 2 := by kernel_rfl
theorem cN1 : Tryz.prog.cellsOf 75 = 1 := by kernel_rfl
theorem cN2 : Tryz.prog.cellsOf 9 = 1 := by kernel_rfl
theorem cN3 : Tryz.prog.cellsOf 76 = 1 := by kernel_rfl
theorem cN4 : Tryz.prog.cellsOf 81 = 1 := by kernel_rfl
theorem cN5 : Tryz.prog.cellsOf 3 = 1 := by kernel_rfl
theorem cN6 : Tryz.prog.cellsOf 79 = 2 := by kernel_rfl
section
variable {H : Type} {enc : TypeId × Value → H} {W : World}
set_option maxRecDepth 100000 in
theorem rd0 {m : Nat} {cs : List Value} {x : DataW H × List MemPlace} (h : DataW.trod enc Tryz.prog W 0 (fun _ => true) true m 9 cs = some x) : ∃ (s0 : ByteArray), cs = [.string s0] ∧ (s0.size ≤ maxLen) := by
  obtain ⟨a, e, _, z⟩ := DataW.trod_string Tryz.underlying9 h
  exact ⟨a, e, z⟩
set_option maxRecDepth 100000 in
theorem rd1 {m : Nat} {cs : List Value} {x : DataW H × List MemPlace} (h : DataW.trod enc Tryz.prog W 0 (fun _ => true) true m 75 cs = some x) : ∃ (L0 : List ByteArray) (A0 : Option Addr) (c0 : Nat), cs = [.slice A0 L0.length c0] ∧ (SlRows strV 1 W A0 L0 ∧ (∀ g ∈ L0, (fun s => s.size ≤ maxLen) g) ∧ (A0 = none → c0 = 0) ∧ L0.length ≤ c0 ∧ c0 ≤ maxLen) := by
  refine openSl (f := strV) (n := 1) (wf := fun s => s.size ≤ maxLen) Tryz.underlying75 (by simp [cN0, cN1, cN2, cN3, cN4, cN5, cN6]) (by decide) (fun _ => rfl) (fun h => ?_) h
  obtain ⟨s0, rfl, z0⟩ := rd0 h
  exact ⟨(s0 : ByteArray), rfl, z0⟩
set_option maxRecDepth 100000 in
theorem rd2 {m : Nat} {cs : List Value} {x : DataW H × List MemPlace} (h : DataW.trod enc Tryz.prog W 0 (fun _ => true) true m 3 cs = some x) : ∃ (a0 : Int), cs = [.int .i64 a0] := by
  obtain ⟨a, e, _⟩ := DataW.trod_int Tryz.underlying3 h
  exact ⟨a, e⟩
set_option maxRecDepth 100000 in
theorem rd3 {m : Nat} {cs : List Value} {x : DataW H × List MemPlace} (h : DataW.trod enc Tryz.prog W 0 (fun _ => true) true m 81 cs = some x) : ∃ (L0 : List Int) (A0 : Option Addr) (c0 : Nat), cs = [.slice A0 L0.length c0] ∧ (SlRows intV 1 W A0 L0 ∧ (∀ g ∈ L0, (fun _ => True) g) ∧ (A0 = none → c0 = 0) ∧ L0.length ≤ c0 ∧ c0 ≤ maxLen) := by
  refine openSl (f := intV) (n := 1) (wf := fun _ => True) Tryz.underlying81 (by simp [cN0, cN1, cN2, cN3, cN4, cN5, cN6]) (by decide) (fun _ => rfl) (fun h => ?_) h
  obtain ⟨a0, rfl⟩ := rd2 h
  exact ⟨(a0 : Int), rfl, trivial⟩
set_option maxRecDepth 100000 in
theorem rd4 {m : Nat} {cs : List Value} {x : DataW H × List MemPlace} (h : DataW.trod enc Tryz.prog W 0 (fun _ => true) true m 76 cs = some x) : ∃ (L0 : List (List Int)) (A0 : Option Addr) (c0 : Nat), cs = [.slice A0 L0.length c0] ∧ (SlSl (fun A0 L0 c0 => SlRows intV 1 W A0 L0 ∧ (∀ g ∈ L0, (fun _ => True) g) ∧ (A0 = none → c0 = 0) ∧ L0.length ≤ c0 ∧ c0 ≤ maxLen) W A0 L0 ∧ (A0 = none → c0 = 0) ∧ L0.length ≤ c0 ∧ c0 ≤ maxLen) := by
  refine openSl2 (Q := fun A0 L0 c0 => SlRows intV 1 W A0 L0 ∧ (∀ g ∈ L0, (fun _ => True) g) ∧ (A0 = none → c0 = 0) ∧ L0.length ≤ c0 ∧ c0 ≤ maxLen) Tryz.underlying76 (by simp [cN0, cN1, cN2, cN3, cN4, cN5, cN6]) (fun h => ?_) h
  obtain ⟨L0, A0, c0, e0, z0⟩ := rd3 h
  exact ⟨L0, A0, c0, e0, z0⟩
set_option maxRecDepth 100000 in
theorem rd5 {m : Nat} {cs : List Value} {x : DataW H × List MemPlace} (h : DataW.trod enc Tryz.prog W 0 (fun _ => true) true m 78 cs = some x) : ∃ (L0 : List ByteArray) (A0 : Option Addr) (c0 : Nat) (L1 : List (List Int)) (A1 : Option Addr) (c1 : Nat), cs = [.slice A0 L0.length c0, .slice A1 L1.length c1] ∧ (SlRows strV 1 W A0 L0 ∧ (∀ g ∈ L0, (fun s => s.size ≤ maxLen) g) ∧ (A0 = none → c0 = 0) ∧ L0.length ≤ c0 ∧ c0 ≤ maxLen) ∧ (SlSl (fun A0 L0 c0 => SlRows intV 1 W A0 L0 ∧ (∀ g ∈ L0, (fun _ => True) g) ∧ (A0 = none → c0 = 0) ∧ L0.length ≤ c0 ∧ c0 ≤ maxLen) W A1 L1 ∧ (A1 = none → c1 = 0) ∧ L1.length ≤ c1 ∧ c1 ≤ maxLen) := by
  obtain ⟨xs, n, _, _, hl, hlen, hf⟩ := DataW.trod_struct Tryz.underlying78 h
  have hl2 : cs.length = 2 := hl.trans (by simp [cN0, cN1, cN2, cN3, cN4, cN5, cN6])
  match xs, hlen with
  | [y0, y1], _ =>
  match cs, hl2 with
  | [c0, c1], _ =>
  have r0 : DataW.trod enc Tryz.prog W 0 (fun _ => true) true n 75 [c0] = some y0 := by simpa [cN0, cN1, cN2, cN3, cN4, cN5, cN6] using hf 0 _ rfl
  have r1 : DataW.trod enc Tryz.prog W 0 (fun _ => true) true n 76 [c1] = some y1 := by simpa [cN0, cN1, cN2, cN3, cN4, cN5, cN6] using hf 1 _ rfl
  obtain ⟨L_0_0, A_0_0, c_0_0, e0, z_0_0⟩ := rd1 r0
  simp only [List.cons.injEq, and_true] at e0
  obtain ⟨L_1_0, A_1_0, c_1_0, e1, z_1_0⟩ := rd4 r1
  simp only [List.cons.injEq, and_true] at e1
  subst e0
  subst e1
  exact ⟨L_0_0, A_0_0, c_0_0, L_1_0, A_1_0, c_1_0, rfl, z_0_0, z_1_0⟩
set_option maxRecDepth 100000 in
theorem rd6 {m : Nat} {cs : List Value} {x : DataW H × List MemPlace} (h : DataW.trod enc Tryz.prog W 0 (fun _ => true) true m 79 cs = some x) : ∃ (a0 : Int) (a1 : Int), cs = [.int .i64 a0, .int .i64 a1] := by
  obtain ⟨hl, m2, hf⟩ := openAr (ce := 1) Tryz.underlying79 (by simp [cN0, cN1, cN2, cN3, cN4, cN5, cN6]) h
  have hl2 : cs.length = 2 := hl.trans (by simp [cN0, cN1, cN2, cN3, cN4, cN5, cN6])
  match cs, hl2 with
  | [c0, c1], _ =>
  obtain ⟨y0, q0⟩ := hf 0 (by decide)
  have r0 : DataW.trod enc Tryz.prog W 0 (fun _ => true) true m2 3 [c0] = some y0 := by simpa using q0
  obtain ⟨a_0_0, e0⟩ := rd2 r0
  simp only [List.cons.injEq, and_true] at e0
  obtain ⟨y1, q1⟩ := hf 1 (by decide)
  have r1 : DataW.trod enc Tryz.prog W 0 (fun _ => true) true m2 3 [c1] = some y1 := by simpa using q1
  obtain ⟨a_1_0, e1⟩ := rd2 r1
  simp only [List.cons.injEq, and_true] at e1
  subst e0
  subst e1
  exact ⟨a_0_0, a_1_0, rfl⟩
end

set_option maxRecDepth 100000 in
theorem contract (H : Type) (enc : TypeId × Value → H) (W : World) (base : Nat) (args : Array Value) (ds gs : List (DataW H)) (before : List MemPlace)
    (hval : ∀ (j : Nat) t v, Tryz.f7.params[j]? = some t → args[j]? = some v → Value.okWide Tryz.prog W .any base t v)
    (hW : DataW.Whole enc Tryz.prog Tryz.f7.params.toList Rows.siteChartsSpec.vars false W args.toList ds gs before) (hsh : W.ShapedOpen Tryz.prog) :
    Calls Tryz.prog 7 args W fun e W' => ∃ v, e = .returned v ∧ Rows.siteChartsSpec.post enc Tryz.prog Tryz.f7 false true false false W args v W' := by
  have hW' := hW
  obtain ⟨p, q, hA0, hV, rfl, hfz, hnd⟩ := hW
  have hA : DataW.TrodAll enc Tryz.prog W 0 (fun _ => true) true Tryz.f7.params.toList args.toList ds p := hA0
  rw [Tryz.params7] at hA hval
  obtain ⟨v0, vs0, d0, ds0, p0, q0, hargs, rfl, rfl, h0, r0⟩ := trodAll_cons hA
  obtain ⟨v1, vs1, d1, ds1, p1, q1, rfl, rfl, rfl, h1, r1⟩ := trodAll_cons r0
  obtain ⟨rfl, rfl, rfl⟩ := trodAll_nil r1
  obtain rfl : args = #[v0, v1] := by cases args; simp_all
  obtain ⟨rfl, rfl⟩ := trodVars_none hV
  clear hA0
  have hk0 := h0
  obtain ⟨fu0, hf0⟩ := h0
  obtain ⟨u0, rfl, hsz0⟩ := okWide_struct Tryz.underlying78 (hval 0 78 v0 rfl rfl)
  obtain ⟨L0_0, A0_0, c0_0, L0_1, A0_1, c0_1, e0, z0_0, z0_1⟩ := rd5 (by simpa [Value.cells] using hf0)
  have e0' : u0 = #[.slice A0_0 L0_0.length c0_0, .slice A0_1 L0_1.length c0_1] := by cases u0; simp_all
  subst e0'
  have hk1 := h1
  obtain ⟨fu1, hf1⟩ := h1
  have hv1 := hval 1 79 v1 rfl rfl
  simp only [Value.okWide, Tryz.underlying79] at hv1
  obtain ⟨u1, rfl, hsz1, _⟩ := hv1
  obtain ⟨a1_0, a1_1, e1⟩ := rd6 (by simpa [Value.cells] using hf1)
  have e1' : u1 = #[.int .i64 a1_0, .int .i64 a1_1] := by cases u1; simp_all
  subst e1'
  refine (siteCharts_any L0_0 A0_0 c0_0 L0_1 A0_1 c0_1 a1_0 a1_1 W (by have := z0_0.2.2.2; unfold maxLen at *; omega) z0_0.2.2.1 z0_0.1 z0_0.2.1 z0_0.2.2.2.1 (by have := z0_1.2.2; unfold maxLen at *; omega) z0_1.2.1 z0_1.1).mono fun e W' ⟨he, hb⟩ => ?_
  subst he
  exact ⟨_, rfl, _, _, _, [], _, [], hW', trodAll_mk1 (shut_bool Tryz.underlying4 _), (trodAll_cons_mk (Below.trod laidOutA (by kernel_rfl) (of_decide_eq_true (by kernel_rfl)) hk0 hb (fun x hx => by have := hW'.lt x; simp [hx] at this; exact this)) (trodAll_cons_mk (Below.trod laidOutA (by kernel_rfl) (of_decide_eq_true (by kernel_rfl)) hk1 hb (fun x hx => by have := hW'.lt x; simp [hx] at this; exact this)) trodAll_mk0)), rfl, hb.frame _, fun h => by cases h⟩

/-- A world for the witness: the settled one. -/
noncomputable def laidWorld (os : Os) : World :=
  let N := (World.settled Tryz.prog os).heap.size
  let w0 := World.holding Tryz.prog os ⟨#[], #[], []⟩
  let put (h : Array Obj) (g : Nat) (cs : Array Value) : Array Obj := h.modify g fun
    | .cells _ t frozen => .cells cs t frozen
    | o => o
  { w0 with heap := w0.heap }
set_option maxRecDepth 1000000 in
theorem laid_met (os : Os) : laidMet Tryz.prog Rows.siteChartsRow.laid ((laidWorld os).forCall (fun _ _ => 0) ⟨#[], #[.agg #[.slice none 0 0, .slice none 0 0], .agg #[.int .i64 0, .int .i64 0]], []⟩).memory :=
  laidMet_of_run' 8 (by kernel_rfl) (by kernel_rfl)
set_option maxRecDepth 1000000 in
theorem reads (os : Os) {H : Type} (enc : TypeId × Value → H) : ∃ places, DataW.whole enc Tryz.prog ((laidWorld os).forCall (fun _ _ => 0) ⟨#[], #[.agg #[.slice none 0 0, .slice none 0 0], .agg #[.int .i64 0, .int .i64 0]], []⟩).memory Tryz.f7.params.toList Rows.siteChartsSpec.vars false (#[.agg #[.slice none 0 0, .slice none 0 0], .agg #[.int .i64 0, .int .i64 0]] : Array Value).toList 8 = some ([.agg [.nil, .nil], .agg [.lit (.int .i64 0), .lit (.int .i64 0)]], [], places) :=
  ⟨[], by kernel_rfl⟩

set_option maxRecDepth 1000000 in
theorem lifted (os : Os) (started : os.Started) (H : Type) (enc : TypeId × Value → H) (F : Stop.Interp) :
    ReturnsInHanded {} Tryz.checked os 7 .any ((OpenSpec.ofChange Rows.siteChartsSpec).preRow enc Tryz.prog Tryz.f7 Rows.siteChartsRow.domain false Rows.siteChartsRow.laid) (((OpenSpec.ofChange Rows.siteChartsSpec).at F).post enc Tryz.prog Tryz.f7 false true false false) := by
  obtain ⟨places, hx⟩ := reads os enc
  refine returnsInHanded_of_row (C := Tryz.checked) (s := OpenSpec.ofChange Rows.siteChartsSpec) own started (by kernel_rfl) Tryz.func7
    (witness_row_atRef (enc := enc) (C := Tryz.checked) false (laidWorld os) #[.agg #[.slice none 0 0, .slice none 0 0], .agg #[.int .i64 0, .int .i64 0]] rfl (by kernel_rfl) (by kernel_rfl) (by kernel_rfl)
      (OpenSpec.preRow_of_cond 8 hx (by kernel_rfl) (fun k hk => by cases hk) (by kernel_rfl) (laid_met os))) ?_
  intro W base args ds gs before hval hW _ _ _ hL hsh _
  exact contract H enc W base args ds gs before hval hW hsh

theorem said : Rows.SiteChartsSaid :=
  OpenClaim.holds_of_cond 7 Tryz.f7 rfl rfl rfl rfl rfl rfl rfl ⟨rfl, rfl, rfl, rfl, rfl⟩ rfl rfl rfl rfl rfl (by kernel_rfl) Tryz.func7 (by kernel_rfl)
    (of_decide_eq_true (by kernel_rfl)) (by unfold Func.isWrapper; first | (rw [if_pos (by decide +kernel)]; kernel_rfl) | (rw [if_neg (by decide +kernel)]; exact ⟨rfl, rfl⟩))
    (fun os started H enc _ F => by rw [OpenClaim.pre_eq_preRow]; exact lifted os started H enc F)
end Go.Proofs.YtojaompfffpofaaGreat.siteCharts
