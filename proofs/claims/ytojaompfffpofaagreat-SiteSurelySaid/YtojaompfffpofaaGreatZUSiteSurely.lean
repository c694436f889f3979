/- The statement of shotlinelaw08.SiteSurely: it returns true for every input. -/
import Derived.Test.YtojaompfffpofaaGreatZUSLawSur
import Derived.Test.YtojaompfffpofaaGreatArg
import Derived.Test.YtojaompfffpofaaGreatRows
import Derived.WalkKit
import Derived.ProofKit
import Derived.OpenShut
import Derived.Deep.DeepHandedRow
import Derived.Deep.DeepWitnessRowRef
import Derived.Lib.LaidIn
import Derived.Lib.SmallJoins
namespace Go.Proofs.YtojaompfffpofaaGreat.siteSurely
open Go.ChangeShapes Go.WideShapes Go.ChangeAt Go.RowKit Go.Joins Go.Deep
set_option linter.unusedVariables false
set_option linter.unusedSimpArgs false

theorem own : ownKnob Tryz.prog.godebug = none := by kernel_rfl
theorem cN0 : Tryz.prog.cellsOf 24 = 2 := by kernel_rfl
theorem cN1 : Tryz.prog.cellsOf 3 = 1 := by kernel_rfl
theorem cN2 : Tryz.prog.cellsOf 22 = 1 := by kernel_rfl
theorem cN3 : Tryz.prog.cellsOf 124 = 3 := by kernel_rfl
theorem cN4 : Tryz.prog.cellsOf 28 = 4 := by kernel_rfl
theorem cN5 : Tryz.prog.cellsOf 26 = 2 := by kernel_rfl
theorem cN6 : Tryz.prog.cellsOf 4 = 1 := by kernel_rfl
section
variable {H : Type} {enc : TypeId × Value → H} {W : World}
set_option maxRecDepth 100000 in
theorem rd0 {m : Nat} {cs : List Value} {x : DataW H × List MemPlace} (h : DataW.trod enc Tryz.prog W 0 (fun _ => true) true m 3 cs = some x) : ∃ (a0 : Int), cs = [.int .i64 a0] := by
  obtain ⟨a, e, _⟩ := DataW.trod_int Tryz.underlying3 h
  exact ⟨a, e⟩
set_option maxRecDepth 100000 in
theorem rd1 {m : Nat} {cs : List Value} {x : DataW H × List MemPlace} (h : DataW.trod enc Tryz.prog W 0 (fun _ => true) true m 124 cs = some x) : ∃ (a0 : Int) (a1 : Int) (a2 : Int), cs = [.int .i64 a0, .int .i64 a1, .int .i64 a2] := by
  obtain ⟨xs, n, _, _, hl, hlen, hf⟩ := DataW.trod_struct Tryz.underlying124 h
  have hl2 : cs.length = 3 := hl.trans (by simp [cN0, cN1, cN2, cN3, cN4, cN5, cN6])
  match xs, hlen with
  | [y0, y1, y2], _ =>
  match cs, hl2 with
  | [c0, c1, c2], _ =>
  have r0 : DataW.trod enc Tryz.prog W 0 (fun _ => true) true n 3 [c0] = some y0 := by simpa [cN0, cN1, cN2, cN3, cN4, cN5, cN6] using hf 0 _ rfl
  have r1 : DataW.trod enc Tryz.prog W 0 (fun _ => true) true n 3 [c1] = some y1 := by simpa [cN0, cN1, cN2, cN3, cN4, cN5, cN6] using hf 1 _ rfl
  have r2 : DataW.trod enc Tryz.prog W 0 (fun _ => true) true n 3 [c2] = some y2 := by simpa [cN0, cN1, cN2, cN3, cN4, cN5, cN6] using hf 2 _ rfl
  obtain ⟨a_0_0, e0⟩ := rd0 r0
  simp only [List.cons.injEq, and_true] at e0
  obtain ⟨a_1_0, e1⟩ := rd0 r1
  simp only [List.cons.injEq, and_true] at e1
  obtain ⟨a_2_0, e2⟩ := rd0 r2
  simp only [List.cons.injEq, and_true] at e2
  subst e0
  subst e1
  subst e2
  exact ⟨a_0_0, a_1_0, a_2_0, rfl⟩
set_option maxRecDepth 100000 in
theorem rd2 {m : Nat} {cs : List Value} {x : DataW H × List MemPlace} (h : DataW.trod enc Tryz.prog W 0 (fun _ => true) true m 22 cs = some x) : ∃ (L0 : List Wv) (A0 : Option Addr) (c0 : Nat), cs = [.slice A0 L0.length c0] ∧ (SlRows wvV 3 W A0 L0 ∧ (∀ g ∈ L0, (fun _ => True) g) ∧ (A0 = none → c0 = 0) ∧ L0.length ≤ c0 ∧ c0 ≤ maxLen) := by
  refine openSl (f := wvV) (n := 3) (wf := fun _ => True) Tryz.underlying22 (by simp [cN0, cN1, cN2, cN3, cN4, cN5, cN6]) (by decide) (fun _ => rfl) (fun h => ?_) h
  obtain ⟨a0, a1, a2, rfl⟩ := rd1 h
  exact ⟨(⟨a0, a1, a2⟩ : Wv), rfl, trivial⟩
set_option maxRecDepth 100000 in
theorem rd3 {m : Nat} {cs : List Value} {x : DataW H × List MemPlace} (h : DataW.trod enc Tryz.prog W 0 (fun _ => true) true m 24 cs = some x) : ∃ (a0 : Int) (L1 : List Wv) (A1 : Option Addr) (c1 : Nat), cs = [.int .i64 a0, .slice A1 L1.length c1] ∧ (SlRows wvV 3 W A1 L1 ∧ (∀ g ∈ L1, (fun _ => True) g) ∧ (A1 = none → c1 = 0) ∧ L1.length ≤ c1 ∧ c1 ≤ maxLen) := by
  obtain ⟨xs, n, _, _, hl, hlen, hf⟩ := DataW.trod_struct Tryz.underlying24 h
  have hl2 : cs.length = 2 := hl.trans (by simp [cN0, cN1, cN2, cN3, cN4, cN5, cN6])
  match xs, hlen with
  | [y0, y1], _ =>
  match cs, hl2 with
  | [c0, c1], _ =>
  have r0 : DataW.trod enc Tryz.prog W 0 (fun _ => true) true n 3 [c0] = some y0 := by simpa [cN0, cN1, cN2, cN3, cN4, cN5, cN6] using hf 0 _ rfl
  have r1 : DataW.trod enc Tryz.prog W 0 (fun _ => true) true n 22 [c1] = some y1 := by simpa [cN0, cN1, cN2, cN3, cN4, cN5, cN6] using hf 1 _ rfl
  obtain ⟨a_0_0, e0⟩ := rd0 r0
  simp only [List.cons.injEq, and_true] at e0
  obtain ⟨L_1_0, A_1_0, c_1_0, e1, z_1_0⟩ := rd2 r1
  simp only [List.cons.injEq, and_true] at e1
  subst e0
  subst e1
  exact ⟨a_0_0, L_1_0, A_1_0, c_1_0, rfl, z_1_0⟩
set_option maxRecDepth 100000 in
theorem rd4 {m : Nat} {cs : List Value} {x : DataW H × List MemPlace} (h : DataW.trod enc Tryz.prog W 0 (fun _ => true) true m 26 cs = some x) : ∃ (a0 : Int) (a1 : Int), cs = [.int .i64 a0, .int .i64 a1] := by
  obtain ⟨xs, n, _, _, hl, hlen, hf⟩ := DataW.trod_struct Tryz.underlying26 h
  have hl2 : cs.length = 2 := hl.trans (by simp [cN0, cN1, cN2, cN3, cN4, cN5, cN6])
  match xs, hlen with
  | [y0, y1], _ =>
  match cs, hl2 with
  | [c0, c1], _ =>
  have r0 : DataW.trod enc Tryz.prog W 0 (fun _ => true) true n 3 [c0] = some y0 := by simpa [cN0, cN1, cN2, cN3, cN4, cN5, cN6] using hf 0 _ rfl
  have r1 : DataW.trod enc Tryz.prog W 0 (fun _ => true) true n 3 [c1] = some y1 := by simpa [cN0, cN1, cN2, cN3, cN4, cN5, cN6] using hf 1 _ rfl
  obtain ⟨a_0_0, e0⟩ := rd0 r0
  simp only [List.cons.injEq, and_true] at e0
  obtain ⟨a_1_0, e1⟩ := rd0 r1
  simp only [List.cons.injEq, and_true] at e1
  subst e0
  subst e1
  exact ⟨a_0_0, a_1_0, rfl⟩
set_option maxRecDepth 100000 in
theorem rd5 {m : Nat} {cs : List Value} {x : DataW H × List MemPlace} (h : DataW.trod enc Tryz.prog W 0 (fun _ => true) true m 4 cs = some x) : ∃ (b0 : Bool), cs = [.bool b0] := by
  obtain ⟨a, e, _⟩ := DataW.trod_bool Tryz.underlying4 h
  exact ⟨a, e⟩
set_option maxRecDepth 100000 in
theorem rd6 {m : Nat} {cs : List Value} {x : DataW H × List MemPlace} (h : DataW.trod enc Tryz.prog W 0 (fun _ => true) true m 28 cs = some x) : ∃ (a0 : Int) (a1 : Int) (a2 : Int) (b3 : Bool), cs = [.int .i64 a0, .int .i64 a1, .int .i64 a2, .bool b3] := by
  obtain ⟨xs, n, _, _, hl, hlen, hf⟩ := DataW.trod_struct Tryz.underlying28 h
  have hl2 : cs.length = 4 := hl.trans (by simp [cN0, cN1, cN2, cN3, cN4, cN5, cN6])
  match xs, hlen with
  | [y0, y1, y2], _ =>
  match cs, hl2 with
  | [c0, c1, c2, c3], _ =>
  have r0 : DataW.trod enc Tryz.prog W 0 (fun _ => true) true n 3 [c0] = some y0 := by simpa [cN0, cN1, cN2, cN3, cN4, cN5, cN6] using hf 0 _ rfl
  have r1 : DataW.trod enc Tryz.prog W 0 (fun _ => true) true n 26 [c1, c2] = some y1 := by simpa [cN0, cN1, cN2, cN3, cN4, cN5, cN6] using hf 1 _ rfl
  have r2 : DataW.trod enc Tryz.prog W 0 (fun _ => true) true n 4 [c3] = some y2 := by simpa [cN0, cN1, cN2, cN3, cN4, cN5, cN6] using hf 2 _ rfl
  obtain ⟨a_0_0, e0⟩ := rd0 r0
  simp only [List.cons.injEq, and_true] at e0
  obtain ⟨a_1_0, a_1_1, e1⟩ := rd4 r1
  simp only [List.cons.injEq, and_true] at e1
  obtain ⟨b_2_0, e2⟩ := rd5 r2
  simp only [List.cons.injEq, and_true] at e2
  subst e0
  obtain ⟨rfl, rfl⟩ := e1
  subst e2
  exact ⟨a_0_0, a_1_0, a_1_1, b_2_0, rfl⟩
end

set_option maxRecDepth 100000 in
theorem contract (H : Type) (enc : TypeId × Value → H) (W : World) (base : Nat) (args : Array Value) (ds gs : List (DataW H)) (before : List MemPlace)
    (hval : ∀ (j : Nat) t v, Tryz.f4.params[j]? = some t → args[j]? = some v → Value.okWide Tryz.prog W .any base t v)
    (hW : DataW.Whole enc Tryz.prog Tryz.f4.params.toList Rows.siteSurelySpec.vars false W args.toList ds gs before) (hsh : W.ShapedOpen Tryz.prog) :
    Calls Tryz.prog 4 args W fun e W' => ∃ v, e = .returned v ∧ Rows.siteSurelySpec.post enc Tryz.prog Tryz.f4 false true false false W args v W' := by
  have hW' := hW
  obtain ⟨p, q, hA0, hV, rfl, hfz, hnd⟩ := hW
  have hA : DataW.TrodAll enc Tryz.prog W 0 (fun _ => true) true Tryz.f4.params.toList args.toList ds p := hA0
  rw [Tryz.params4] at hA hval
  obtain ⟨v0, vs0, d0, ds0, p0, q0, hargs, rfl, rfl, h0, r0⟩ := trodAll_cons hA
  obtain ⟨v1, vs1, d1, ds1, p1, q1, rfl, rfl, rfl, h1, r1⟩ := trodAll_cons r0
  obtain ⟨v2, vs2, d2, ds2, p2, q2, rfl, rfl, rfl, h2, r2⟩ := trodAll_cons r1
  obtain ⟨rfl, rfl, rfl⟩ := trodAll_nil r2
  obtain rfl : args = #[v0, v1, v2] := by cases args; simp_all
  obtain ⟨rfl, rfl⟩ := trodVars_none hV
  clear hA0
  have hk0 := h0
  obtain ⟨fu0, hf0⟩ := h0
  obtain ⟨u0, rfl, hsz0⟩ := okWide_struct Tryz.underlying24 (hval 0 24 v0 rfl rfl)
  obtain ⟨a0_0, L0_1, A0_1, c0_1, e0, z0_1⟩ := rd3 (by simpa [Value.cells] using hf0)
  have e0' : u0 = #[.int .i64 a0_0, .slice A0_1 L0_1.length c0_1] := by cases u0; simp_all
  subst e0'
  have hk1 := h1
  obtain ⟨fu1, hf1⟩ := h1
  obtain ⟨u1, rfl, hsz1⟩ := okWide_struct Tryz.underlying28 (hval 1 28 v1 rfl rfl)
  obtain ⟨a1_0, a1_1, a1_2, b1_3, e1⟩ := rd6 (by simpa [Value.cells] using hf1)
  have e1' : u1 = #[.int .i64 a1_0, .int .i64 a1_1, .int .i64 a1_2, .bool b1_3] := by cases u1; simp_all
  subst e1'
  have hk2 := h2
  obtain ⟨fu2, hf2⟩ := h2
  obtain ⟨u2, rfl⟩ := okWide_int Tryz.underlying3 (hval 2 3 v2 rfl rfl)
  obtain ⟨a2_0, e2⟩ := rd0 (by simpa [Value.cells] using hf2)
  simp only [List.cons.injEq, and_true, Value.int.injEq, Value.bool.injEq, Value.string.injEq, Value.slice.injEq, true_and] at e2
  have e2' := e2.symm
  subst e2'
  refine (siteSurely_any a0_0 L0_1 A0_1 c0_1 a1_0 a1_1 a1_2 b1_3 a2_0 W (by have := z0_1.2.2.2; unfold maxLen at *; omega) z0_1.2.2.1 z0_1.1).mono fun e W' ⟨he, hb⟩ => ?_
  subst he
  exact ⟨_, rfl, _, _, _, [], _, [], hW', trodAll_mk1 (shut_bool Tryz.underlying4 _), (trodAll_cons_mk (Below.trod laidOutA (by kernel_rfl) (of_decide_eq_true (by kernel_rfl)) hk0 hb (fun x hx => by have := hW'.lt x; simp [hx] at this; exact this)) (trodAll_cons_mk (Below.trod laidOutA (by kernel_rfl) (of_decide_eq_true (by kernel_rfl)) hk1 hb (fun x hx => by have := hW'.lt x; simp [hx] at this; exact this)) (trodAll_cons_mk (Below.trod laidOutA (by kernel_rfl) (of_decide_eq_true (by kernel_rfl)) hk2 hb (fun x hx => by have := hW'.lt x; simp [hx] at this; exact this)) trodAll_mk0))), rfl, hb.frame _, fun h => by cases h⟩

/-- A world for the witness: the settled one. -/
noncomputable def laidWorld (os : Os) : World :=
  let N := (World.settled Tryz.prog os).heap.size
  let w0 := World.holding Tryz.prog os ⟨#[], #[], []⟩
  let put (h : Array Obj) (g : Nat) (cs : Array Value) : Array Obj := h.modify g fun
    | .cells _ t frozen => .cells cs t frozen
    | o => o
  { w0 with heap := w0.heap }
set_option maxRecDepth 1000000 in
theorem laid_met (os : Os) : laidMet Tryz.prog Rows.siteSurelyRow.laid ((laidWorld os).forCall (fun _ _ => 0) ⟨#[], #[.agg #[.int .i64 0, .slice none 0 0], .agg #[.int .i64 0, .int .i64 0, .int .i64 0, .bool false], .int .i64 0], []⟩).memory :=
  laidMet_of_run' 8 (by kernel_rfl) (by kernel_rfl)
set_option maxRecDepth 1000000 in
theorem reads (os : Os) {H : Type} (enc : TypeId × Value → H) : ∃ places, DataW.whole enc Tryz.prog ((laidWorld os).forCall (fun _ _ => 0) ⟨#[], #[.agg #[.int .i64 0, .slice none 0 0], .agg #[.int .i64 0, .int .i64 0, .int .i64 0, .bool false], .int .i64 0], []⟩).memory Tryz.f4.params.toList Rows.siteSurelySpec.vars false (#[.agg #[.int .i64 0, .slice none 0 0], .agg #[.int .i64 0, .int .i64 0, .int .i64 0, .bool false], .int .i64 0] : Array Value).toList 8 = some ([.agg [.lit (.int .i64 0), .nil], .agg [.lit (.int .i64 0), .agg [.lit (.int .i64 0), .lit (.int .i64 0)], .lit (.bool false)], .lit (.int .i64 0)], [], places) :=
  ⟨[], by kernel_rfl⟩

set_option maxRecDepth 1000000 in
theorem lifted (os : Os) (started : os.Started) (H : Type) (enc : TypeId × Value → H) (F : Stop.Interp) :
    ReturnsInHanded {} Tryz.checked os 4 .any ((OpenSpec.ofChange Rows.siteSurelySpec).preRow enc Tryz.prog Tryz.f4 Rows.siteSurelyRow.domain false Rows.siteSurelyRow.laid) (((OpenSpec.ofChange Rows.siteSurelySpec).at F).post enc Tryz.prog Tryz.f4 false true false false) := by
  obtain ⟨places, hx⟩ := reads os enc
  refine returnsInHanded_of_row (C := Tryz.checked) (s := OpenSpec.ofChange Rows.siteSurelySpec) own started (by kernel_rfl) Tryz.func4
    (witness_row_atRef (enc := enc) (C := Tryz.checked) false (laidWorld os) #[.agg #[.int .i64 0, .slice none 0 0], .agg #[.int .i64 0, .int .i64 0, .int .i64 0, .bool false], .int .i64 0] rfl (by kernel_rfl) (by kernel_rfl) (by kernel_rfl)
      (OpenSpec.preRow_of_cond 8 hx (by kernel_rfl) (fun k hk => by cases hk) (by kernel_rfl) (laid_met os))) ?_
  intro W base args ds gs before hval hW _ _ _ hL hsh _
  exact contract H enc W base args ds gs before hval hW hsh

theorem said : Rows.SiteSurelySaid :=
  OpenClaim.holds_of_cond 4 Tryz.f4 rfl rfl rfl rfl rfl rfl rfl ⟨rfl, rfl, rfl, rfl, rfl⟩ rfl rfl rfl rfl rfl (by kernel_rfl) Tryz.func4 (by kernel_rfl)
    (of_decide_eq_true (by kernel_rfl)) (by unfold Func.isWrapper; first | (rw [if_pos (by decide +kernel)]; kernel_rfl) | (rw [if_neg (by decide +kernel)]; exact ⟨rfl, rfl⟩))
    (fun os started H enc _ F => by rw [OpenClaim.pre_eq_preRow]; exact lifted os started H enc F)
end Go.Proofs.YtojaompfffpofaaGreat.siteSurely
