import Derived.Test.YtijdphlejokijaaEWEClkOf
import Derived.Outline
namespace Go.Proofs.Ytijdphlejokijaa
open Go.ChangeShapes Go.WideShapes Go.ChangeAt Go.RowKit
set_option linter.unusedVariables false
set_option linter.unusedSimpArgs false
theorem pr2a (a b : Int) (w : World) : (part 3 #[.int .i64 a, .int .i64 b] 0).run Try.prog w = .ok (.int .i64 a) w := by kernel_rfl
theorem pr2b (a b : Int) (w : World) : (part 3 #[.int .i64 a, .int .i64 b] 1).run Try.prog w = .ok (.int .i64 b) w := by kernel_rfl
theorem undIq (w : World) : (underlying 3).run Try.prog w = .ok (.int .i64) w := by kernel_rfl
theorem infoIq : ∃ i, Try.prog.info? 3 = some i := Option.isSome_iff_exists.1 (by kernel_rfl)
theorem cellsIq : Try.prog.cellsOf 3 = 1 := by kernel_rfl
theorem eqIq (d : Nat) (a b : Int) (w : World) : (Op.equalIn (d + 1) 3 (.int .i64 a) (.int .i64 b)).run Try.prog w = .ok (a == b) w := by
  simp only [Op.equalIn, Sem.run_bind, undIq, Result.andThen]
  simp
/-- Two pairs are the same. -/
theorem eqP2 (a b c d : Int) (r : Bool) (h : (a == c && b == d) = r) (w : World) : (Op.equalIn 10000 55 (.agg #[.int .i64 a, .int .i64 b]) (.agg #[.int .i64 c, .int .i64 d])).run Try.prog w = .ok r w := by
  obtain ⟨i, hi⟩ := infoIq
  have k := run_equalIn_array (P := Try.prog) (w := w) 9999 (t := 55) (e := 3) (n := 2) #[.int .i64 a, .int .i64 b] #[.int .i64 c, .int .i64 d] Try.underlying55 hi
  refine k.trans ?_
  rw [cellsIq, show List.range 2 = [0, 1] from rfl, ← h]
  by_cases e1 : a = c
  · by_cases e2 : b = d
    · simp [Op.eqItems, Sem.run_bind, pr2a, pr2b, eqIq 9998, e1, e2]
    · simp [Op.eqItems, Sem.run_bind, pr2a, pr2b, eqIq 9998, e1, e2]
  · simp [Op.eqItems, Sem.run_bind, pr2a, pr2b, eqIq 9998, e1]
theorem eqFq (d : Nat) (a b a' b' : Int) (w : World) {fs : List Field} (h : fs.map (fun f => (decide (f.name = "_"), f.type, f.offset)) = [(false, 3, 0), (false, 3, 1)]) :
    (Op.eqFields (d + 1) #[.int .i64 a, .int .i64 b] #[.int .i64 a', .int .i64 b'] fs).run Try.prog w = .ok (a == a' && b == b') w := by
  match fs, h with
  | [], h => simp at h
  | [_], h => simp at h
  | _ :: _ :: _ :: _, h => simp at h
  | [f, g], h =>
    simp at h
    obtain ⟨⟨h1, h2, h3⟩, h4, h5, h6⟩ := h
    by_cases e1 : a = a'
    · by_cases e2 : b = b'
      · simp [Op.eqFields, Sem.run_bind, h1, h2, h3, h4, h5, h6, pr2a, pr2b, eqIq, e1, e2]
      · simp [Op.eqFields, Sem.run_bind, h1, h2, h3, h4, h5, h6, pr2a, pr2b, eqIq, e1, e2]
    · simp [Op.eqFields, Sem.run_bind, h1, h2, h3, h4, h5, h6, pr2a, pr2b, eqIq, e1]
/-- Two gases are the same. -/
theorem eqG2 (a b c d : Int) (r : Bool) (h : (a == c && b == d) = r) (w : World) : (Op.equalIn 10000 72 (.agg #[.int .i64 a, .int .i64 b]) (.agg #[.int .i64 c, .int .i64 d])).run Try.prog w = .ok r w := by
  rw [show (10000 : Nat) = 9998 + 1 + 1 from rfl, run_equalIn_struct w (9998 + 1) 72 _ _ (by kernel_rfl) (by kernel_rfl), ← h]
  exact eqFq 9998 a b c d w (by kernel_rfl)
def p2V (x : Int × Int) : List Value := [.int .i64 x.1, .int .i64 x.2]
theorem infoP2 : (Try.prog.info? 55).map (fun i => (i.zero, i.size, i.bytes)) = some (some (.agg #[.int .i64 0, .int .i64 0]), 2, 16) := by kernel_rfl
/-- What is found behind some legs: the changes of gas, and the gas of the last. -/
def swSt (f : Nat → Pl) (pre : List Nat) : List (Int × Int) × Int × Int := pre.foldl (fun st x => (if 0 < (f x).nu ∧ ¬ ((f x).o = st.2.1 ∧ (f x).h = st.2.2) then st.1 ++ [((f x).nu, (f x).g)] else st.1, (f x).o, (f x).h)) ([], 0, 0)
theorem swSt_snoc (f : Nat → Pl) (pre : List Nat) (x : Nat) : swSt f (pre ++ [x]) = (if 0 < (f x).nu ∧ ¬ ((f x).o = (swSt f pre).2.1 ∧ (f x).h = (swSt f pre).2.2) then (swSt f pre).1 ++ [((f x).nu, (f x).g)] else (swSt f pre).1, (f x).o, (f x).h) := by
  unfold swSt
  rw [List.foldl_append]
  rfl
theorem swSt_len (f : Nat → Pl) : ∀ (n : Nat) (pre : List Nat), pre.length = n → (swSt f pre).1.length ≤ n
  | 0, pre, h => by
    obtain rfl := List.eq_nil_of_length_eq_zero h
    simp [swSt]
  | n + 1, pre, h => by
    obtain ⟨q, x, rfl⟩ : ∃ q x, pre = q ++ [x] := by
      have hne : pre ≠ [] := by intro e; rw [e] at h; simp at h
      exact ⟨pre.dropLast, pre.getLast hne, (List.dropLast_concat_getLast hne).symm⟩
    have hq : q.length = n := by simpa using h
    have ih := swSt_len f n q hq
    rw [swSt_snoc]
    by_cases e : 0 < (f x).nu ∧ ¬ ((f x).o = (swSt f q).2.1 ∧ (f x).h = (swSt f q).2.2)
    · rw [if_pos e]; simp; omega
    · rw [if_neg e]; show (swSt f q).1.length ≤ n + 1; omega
/-- What lay below N lies as it lay, but for two blocks. -/
structure KeptU (N t u : Nat) (W W' : World) : Prop where
  size : W.heap.size ≤ W'.heap.size
  same : ∀ b, b < N → b ≠ t → b ≠ u → W'.heap[b]? = W.heap[b]?
theorem KeptU.refl (N t u : Nat) (W : World) : KeptU N t u W W := ⟨Nat.le_refl _, fun _ _ _ _ => rfl⟩
theorem KeptU.trans {N t u : Nat} {A B C : World} (h : KeptU N t u A B) (k : KeptU N t u B C) : KeptU N t u A C := ⟨Nat.le_trans h.size k.size, fun b hb hn hm => (k.same b hb hn hm).trans (h.same b hb hn hm)⟩
theorem KeptU.of_below {N t u : Nat} {A B : World} (h : Below N A B) : KeptU N t u A B := ⟨h.size, fun b hb _ _ => h.block b hb⟩
theorem KeptU.of_kept {N t u : Nat} {A B : World} (h : KeptO N t A B) : KeptU N t u A B := ⟨h.size, fun b hb hn _ => h.same b hb hn⟩
theorem KeptU.set {N t u : Nat} (A : World) (i : Nat) (v : Value) : KeptU N t u A (A.setCell ⟨u, i, none⟩ v) := ⟨(KeepsOthers.setCell A ⟨u, i, none⟩ v).size, fun b _ _ hm => Below.heap_setCell _ _ _ b (fun e => hm (by rw [e]))⟩
theorem KeptU.cell {N t u : Nat} {A B : World} (h : KeptU N t u A B) {b : Nat} (hb : b < N) (hn : b ≠ t) (hm : b ≠ u) (i : Nat) : B.cell? ⟨b, i, none⟩ = A.cell? ⟨b, i, none⟩ := World.cell?_of_block (a := ⟨b, i, none⟩) (h.same b hb hn hm)
theorem keptU_own {β : Type} {B N t u : Nat} {W0 : World} (hN : N ≤ W0.heap.size) (hB : N ≤ B) : OwnFrom B (fun (_ : β) W => KeptU N t u W0 W) := by
  intro s X Y row hs hg hr
  refine ⟨Nat.le_trans hs.size hg.size, fun b hb hn hm => (hg.block b (by have := hs.size; omega) (fun e => ?_)).trans (hs.same b hb hn hm)⟩
  have := (hr b e.symm).1
  omega
theorem KeptU.kpB {N t u : Nat} {A B : World} (h : KeptU N t u A B) {bs : List Nat} (hb : ∀ b ∈ bs, b < N ∧ b ≠ t ∧ b ≠ u) : KpB bs A B := ⟨h.size, fun b hm => h.same b (hb b hm).1 (hb b hm).2.1 (hb b hm).2.2⟩
theorem BoxN.kept {W W' : World} {b N t u : Nat} {ty : TypeId} {vs : List Value} (h : BoxN W b ty vs) (k : KeptU N t u W W') (hb : b < N) (h1 : b ≠ t) (h2 : b ≠ u) : BoxN W' b ty vs := (k.same b hb h1 h2).trans h
theorem BoxN.belowN {W W' : World} {b N : Nat} {ty : TypeId} {vs : List Value} (h : BoxN W b ty vs) (k : Below N W W') (hb : b < N) : BoxN W' b ty vs := (k.block b hb).trans h
end Go.Proofs.Ytijdphlejokijaa
