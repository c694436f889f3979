/- A course's end, for every table, any leg and fineness: what (course).states and (course).end return. -/
import Derived.Test.YtfaodlcfjhnhbaaTStatesG
import Derived.Test.YtfaodlcfjhnhbaaMEnd
import Derived.RangeFuncNested
import Derived.RangeFuncBound
import Derived.RangeFuncCalls
import Derived.RangeFuncLeaves
import Derived.Shelf.Abstract
import Derived.Shelf.RegionOpen
import Derived.OwnWalkIn
import Derived.TacticsInMore
import Derived.LoopNIn
import Derived.LoopIn
import Derived.Sort.CutIn
import Derived.Deep.DrawnRows
import Derived.Laws.Entries
import Derived.Outline
namespace Go.Proofs.Ytfaodlcfjhnhbaa
open Go.ChangeShapes Go.WideShapes Go.ChangeAt Go.RowKit Go.Shelf
open Go.ChangeMaps (setBlock)
set_option linter.unusedVariables false
set_option linter.unusedSimpArgs false
attribute [local go_sem] Oper.semAt_some
attribute [local go_sem ↓] Go.wp_at_zero Go.wp_at_succ

theorem range_endG (n9 : Nat) (PE : List Ld) {g : Operand} {ps : Array Tmp} {assign body : Code} {Q : Exit → Act → World → Prop} {a : Act} {w : World} {m : Nat} (h1 : 1 ≤ m) {gf : Nat} {lb : Array Value} (hg : a.eval g = .func (.func gf) #[] lb)
    (eg : ∀ args w, (callFunc gf args).run Try.prog w = .ok (.enter gf args) w) (hps : ps.size = 1) (bB bm : Nat) (hB : bB < w.heap.size) (hbm : bm < w.heap.size)
    (hround : ∀ (fn : FuncId) (R : Loop) (W : World) (x0 x1 x2 x3 : Int) (q qf c1 c2 : Nat) (v : Value), w.heap.size + 2 ≤ W.heap.size → R.state = .ready → R.pending = none → W.heap[w.heap.size + 1]? = some (.loop R) → W.cell? ⟨bB, 0, none⟩ = some v → W.frozen? ⟨bB, 0, none⟩ = false →
      assign.wpIn (Fence.wide.inRound (w.heap.size + 1)) (m - 1 - 1) Try.prog (Exit.then (fun a₁ w₁ => ∃ w₂, (Instr.beginRound (w.heap.size + 1)).run Try.prog w₁ = .ok () w₂ ∧ body.wpIn (Fence.wide.inRound (w.heap.size + 1)) (m - 1 - 1) Try.prog (roundPost Try.prog (w.heap.size + 1) (Round1 bB W (.slice (some ⟨q, qf, none⟩) c1 c2))) a₁ w₂) (fun _ _ _ => False))
        { tmps := (ps.zip #[.agg #[.int .i64 x0, .int .i64 x1, .int .i64 x2, .int .i64 x3, .slice (some ⟨q, qf, none⟩) c1 c2]]).foldl (fun t (p, v) => t.setIfInBounds p v) a.tmps, defers := [] } W)
    (hiter : ∀ (ol : Obj) (W1 : World), Below w.heap.size w W1 → W1.heap.size = w.heap.size + 2 → W1.heap[w.heap.size + 1]? = some ol → W1.heap[w.heap.size]? = some (.deferred (some [])) → Yields (m - 1 - 1) (w.heap.size + 1) w.heap.size bB W1.heap.size ol (.deferred (some [])) →
      CallsIn Fence.wide (m - 1) Try.prog gf (#[.func (.yield (w.heap.size + 1)) #[] #[]] ++ lb) W1 (StatesEndG n9 PE bm bB W1.heap.size W1))
    (hdone : ∀ (W1 W2 : World) (e : Ending) (o : Obj), Below w.heap.size w W1 → W1.heap.size = w.heap.size + 2 → StatesEndG n9 PE bm bB W1.heap.size W1 e W2 → W2.heap[w.heap.size]? = some (.deferred (some [])) → Q .normal { a with defers := { target := .collected w.heap.size, args := #[] } :: a.defers } (W2.putObj (w.heap.size + 1) o)) :
    (Code.rangeFunc g ps assign body).wpIn Fence.wide m Try.prog Q a w := by
  refine wpIn_rangeFunc ?_
  intro fn hfn
  show ∃ (l : Nat) (mark : List Deferred) (w₁ : World) (d : Deferred) (w₁' : World) (f : FuncId) (args : Array Value) (w₂ : World), (Instr.enterLoop fn a.tmps ps assign body none).run Try.prog w = _ ∧ _
  obtain ⟨W1, hW1⟩ : ∃ W1, (w.alloc (.deferred (some []))).alloc (.loop (recE fn a.tmps ps assign body w.heap.size)) = W1 := ⟨_, rfl⟩
  have hL1 : W1.heap[w.heap.size + 1]? = some (.loop (recE fn a.tmps ps assign body w.heap.size)) := by
    rw [← hW1]; have := World.alloc_heap_new (w.alloc (.deferred (some []))) (.loop (recE fn a.tmps ps assign body w.heap.size)); rwa [World.size_alloc] at this
  have hK1 : W1.heap[w.heap.size]? = some (.deferred (some [])) := by
    rw [← hW1]; exact (Below.heap_alloc _ _ _ (by simp)).trans (World.alloc_heap_new w _)
  have hz1 : W1.heap.size = w.heap.size + 2 := by rw [← hW1]; simp
  have hb1 : Below w.heap.size w W1 := by rw [← hW1]; exact ((Below.refl _ _).alloc (Nat.le_refl _) _).alloc (by simp) _
  refine ⟨w.heap.size + 1, [{ target := .collected w.heap.size, args := #[] }], W1, { target := .fn (.func gf) lb, args := #[.func (.yield (w.heap.size + 1)) #[] #[]] }, W1, gf,
    #[.func (.yield (w.heap.size + 1)) #[] #[]] ++ lb, W1, ?_, ?_, ?_, ?_, fun _ => h1, ?_⟩
  · rw [← hW1]; exact run_enterLoop_outer _ _ _ _ _
  · simp only [resolve, hg]
    simp [go_sem]
  · intro f' hf'; trivial
  · simp [invoke, go_sem, eg]
  · refine (hiter _ W1 hb1 hz1 hL1 hK1 ?_).mono ?_
    · intro W x0 x1 x2 x3 q qf c1 c2 v hN hl hD hc hf
      have hy := run_yield (P := Try.prog) (args := #[.agg #[.int .i64 x0, .int .i64 x1, .int .i64 x2, .int .i64 x3, .slice (some ⟨q, qf, none⟩) c1 c2]]) hl (by show _ = ps.size; rw [hps]; rfl)
      exact ⟨fn, _, assign, body, hy, roundIn_of_wpIn trivial (hround fn _ W x0 x1 x2 x3 q qf c1 c2 v (by omega) rfl rfl hl hc hf)⟩
    · intro e W2 hS
      have hS' := hS
      obtain ⟨⟨v, rfl⟩, q, qf, qc, hc, hf, hq, hql, r0, hx⟩ := hS
      have hl2 : W2.heap[w.heap.size + 1]? = some (.loop (recE fn a.tmps ps assign body w.heap.size)) := (hx.block _ (by omega) (by omega) (by omega)).trans hL1
      have hd2 : W2.heap[w.heap.size]? = some (.deferred (some [])) := (hx.block _ (by omega) (by omega) (by omega)).trans hK1
      exact ⟨none, _, run_endLoop (P := Try.prog) hl2 (by simp [recE]), hdone W1 W2 _ _ hb1 hz1 hS' hd2⟩
attribute [local go_sem] run_store_fn
/-- The function that yields the states, and what it has captured. -/
def StMG (vf vt vs vo vh : Int) (nf len : Nat) (w : World) (tb tq tcap q0 qo qcap : Nat) (e : Ending) (w' : World) : Prop := ∃ fb b3 rb rcap, e = .returned (.func (.func 63) #[] #[.pointer (some ⟨w.heap.size, 0, none⟩), .pointer (some ⟨w.heap.size + 1, 0, none⟩), .pointer (some ⟨fb, 0, none⟩)]) ∧
  (w.heap.size + 1 + 1 < b3 ∧ b3 + 1 + 1 < fb ∧ fb < w'.heap.size ∧ w.heap.size + 1 + 1 ≤ rb ∧ rb < b3) ∧ (8 + 2 * nf + 1 ≤ rcap ∧ rcap ≤ maxLen) ∧
  (w'.cell? ⟨w.heap.size, 0, none⟩ = some (.int .i64 vf) ∧ w'.cell? ⟨w.heap.size, 1, none⟩ = some (.int .i64 vt) ∧ w'.cell? ⟨w.heap.size, 2, none⟩ = some (.int .i64 vs) ∧ w'.cell? ⟨w.heap.size, 3, none⟩ = some (.int .i64 vo) ∧ w'.cell? ⟨w.heap.size, 4, none⟩ = some (.int .i64 vh) ∧ w'.cell? ⟨w.heap.size, 5, none⟩ = some (.slice (some ⟨tb, tq, none⟩) len tcap) ∧ w'.cell? ⟨w.heap.size, 6, none⟩ = some (.int .i64 nf)) ∧
  w'.cell? ⟨w.heap.size + 1, 0, none⟩ = some (.slice (some ⟨q0, qo, none⟩) len qcap) ∧
  w'.cell? ⟨fb, 0, none⟩ = some (.func (.func 78) #[] #[.pointer (some ⟨b3 + 1 + 1, 0, none⟩), .pointer (some ⟨w.heap.size + 1 + 1, 0, none⟩), .pointer (some ⟨b3, 0, none⟩)]) ∧
  w'.cell? ⟨b3 + 1 + 1, 0, none⟩ = some (.map (some (b3 + 1))) ∧ w'.cell? ⟨w.heap.size + 1 + 1, 5, none⟩ = some (.slice (some ⟨tb, tq, none⟩) len tcap) ∧ w'.cell? ⟨b3, 0, none⟩ = some (.slice (some ⟨rb, 0, none⟩) (8 + 2 * nf + 1) rcap) ∧ w'.heap[b3 + 1]? = some (.map #[] 0) ∧ RtAt w' rb (8 + 2 * nf) ∧ Below w.heap.size w w'
set_option maxRecDepth 100000 in
set_option maxHeartbeats 2000000 in
theorem states_any (vf vt vs vo vh : Int) (nf len : Nat) (tb tq tcap q0 qo qcap : Nat) (w : World) (hn6 : nf ≤ 6) :
    Calls Try.prog 46 #[.agg #[.int .i64 vf, .int .i64 vt, .int .i64 vs, .int .i64 vo, .int .i64 vh, .slice (some ⟨tb, tq, none⟩) len tcap, .int .i64 nf], .slice (some ⟨q0, qo, none⟩) len qcap] w (StMG vf vt vs vo vh nf len w tb tq tcap q0 qo qcap) := by
  go_enter Try.func46, Try.ntmps46
  go_wp2_with fail
  refine (decays_any vf vt vs vo vh (some ⟨tb, tq, none⟩) len tcap nf _ hn6).mono ?_
  rintro e w1 ⟨b3, rb, rcap, rfl, h1, h2, d5, d3, d4, dm, hr1, hr2, hrc1, hrc2, hrt, hB⟩
  try simp at h1
  try simp at hr2
  have HD := Lib.hid (And.intro d5 (And.intro d3 (And.intro d4 (And.intro dm (And.intro hrt (And.intro hrc1 hrc2))))))
  have c : ∀ i, w1.cell? ⟨w.heap.size, i, none⟩ = _ := fun i => hB.cell (p := ⟨w.heap.size, i, none⟩) (by simp; omega)
  have k0 : w1.cell? ⟨w.heap.size, 0, none⟩ = some (.int .i64 vf) := by rw [c]; simp [go_sem, World.cell?_alloc_past]
  have k1 : w1.cell? ⟨w.heap.size, 1, none⟩ = some (.int .i64 vt) := by rw [c]; simp [go_sem, World.cell?_alloc_past]
  have k2 : w1.cell? ⟨w.heap.size, 2, none⟩ = some (.int .i64 vs) := by rw [c]; simp [go_sem, World.cell?_alloc_past]
  have k3 : w1.cell? ⟨w.heap.size, 3, none⟩ = some (.int .i64 vo) := by rw [c]; simp [go_sem, World.cell?_alloc_past]
  have k4 : w1.cell? ⟨w.heap.size, 4, none⟩ = some (.int .i64 vh) := by rw [c]; simp [go_sem, World.cell?_alloc_past]
  have k5 : w1.cell? ⟨w.heap.size, 5, none⟩ = some (.slice (some ⟨tb, tq, none⟩) len tcap) := by rw [c]; simp [go_sem, World.cell?_alloc_past]
  have k6 : w1.cell? ⟨w.heap.size, 6, none⟩ = some (.int .i64 nf) := by rw [c]; simp [go_sem, World.cell?_alloc_past]
  have k7 : w1.cell? ⟨w.heap.size + 1, 0, none⟩ = some (.slice (some ⟨q0, qo, none⟩) len qcap) := by rw [hB.cell (p := ⟨w.heap.size + 1, 0, none⟩) (by simp)]; simp [go_sem]
  have HC := Lib.hid (And.intro k0 (And.intro k1 (And.intro k2 (And.intro k3 (And.intro k4 (And.intro k5 (And.intro k6 k7)))))))
  have hz := hB.size
  try simp at hz
  have hB1 : Below w.heap.size w w1 := (by (repeat (first | (with_reducible refine Below.drew ?_) | (with_reducible refine below_drewN ?_ _) | (with_reducible refine Below.alloc ?_ (by first | omega | (simp; done) | (simp; omega) | (simp at *; omega)) _) | (with_reducible refine Below.setCell ?_ (by first | omega | (simp; done) | (simp; omega) | (simp at *; omega)) _) | (with_reducible exact Below.refl _ _) | (with_reducible assumption) | (with_reducible refine Below.trans ?_ (Below.mono (by assumption) (by first | omega | (simp; done) | (simp; omega) | (simp at *; omega)))))))
  clear c k0 k1 k2 k3 k4 k5 k6 k7 d5 d3 d4 dm hrt hB hrc1 hrc2
  go_wp2
  go_ret
  have hb : ∀ (o : Obj), Below w1.heap.size w1 (w1.alloc o) := fun o => (Below.refl _ _).alloc (Nat.le_refl _) o
  have C : ∀ {o : Obj} {b i : Nat}, b < w1.heap.size → (w1.alloc o).cell? ⟨b, i, none⟩ = w1.cell? ⟨b, i, none⟩ := fun {o b i} h => (hb o).cell (p := ⟨b, i, none⟩) h
  obtain ⟨d5, d3, d4, dm, hrt, hrc1, hrc2⟩ := HD.out
  obtain ⟨k0, k1, k2, k3, k4, k5, k6, k7⟩ := HC.out
  try simp only [World.size_alloc] at d5
  exact ⟨w1.heap.size, b3, rb, rcap, rfl, ⟨by omega, by omega, by simp, by omega, by omega⟩, ⟨hrc1, hrc2⟩, ⟨(C (by omega)).trans k0, (C (by omega)).trans k1, (C (by omega)).trans k2, (C (by omega)).trans k3, (C (by omega)).trans k4, (C (by omega)).trans k5, (C (by omega)).trans k6⟩, (C (by omega)).trans k7,
    by simp [go_sem], (C (by omega)).trans d4, (C (by omega)).trans d5, (C (by omega)).trans d3, ((hb _).block _ (by omega)).trans dm, hrt.below (hb _) (by omega), hB1.alloc hB1.size _⟩
/-- The loads behind a leg. -/
def EndG (n9 : Nat) (PE : List Ld) (w : World) (e : Ending) (w' : World) : Prop := ∃ q qf qc, e = .returned (.slice (some ⟨q, qf, none⟩) n9 qc) ∧ w.heap.size ≤ q ∧ q < w'.heap.size ∧ LdAt w' q qf PE ∧ Below w.heap.size w w'
set_option maxRecDepth 100000 in
set_option maxHeartbeats 4000000 in
theorem end_any (vf vt vs vo vh : Int) (nf K : Nat) (T : List Cm) (P0 : List Ld) (tb tq tcap q0 qo qcap : Nat) (w : World) (htb : tb < w.heap.size) (hq0 : q0 < w.heap.size) (hT : CmAt w tb tq T) (hP : LdAt w q0 qo P0) (HLG : Hid (LegOk vf vt vs vo vh nf)) (HT0 : Hid (TbOk T)) (HP0 : Hid (P0.length = T.length ∧ LdOk P0)) (HK : Hid (stN vs nf = K ∧ stK vs nf = K)) :
    Calls Try.prog 27 #[.agg #[.int .i64 vf, .int .i64 vt, .int .i64 vs, .int .i64 vo, .int .i64 vh, .slice (some ⟨tb, tq, none⟩) T.length tcap, .int .i64 nf], .slice (some ⟨q0, qo, none⟩) T.length qcap] w (EndG T.length (ldR vf vt vs nf vo vh T P0 K) w) := by
  have HG := Lib.hid (And.intro hT hP)
  have hn6 : nf ≤ 6 := HLG.out.2.2.2.2
  clear hT hP
  refine (callsIn_wide (n := 9)).1 ?_
  refine callsIn_of_wp_marks Try.func27 rfl trivial ?_
  simp only [Try.ntmps27, List.size_toArray, List.length_cons, List.length_nil, Nat.reduceAdd, Nat.reduceSub, Array.replicate_succ, Array.replicate_zero, List.push_toArray, List.append_toArray, List.nil_append, List.cons_append]
  gi_wp2_with fail
  refine ⟨trivial, (callsIn_wide.2 (states_any vf vt vs vo vh nf T.length tb tq tcap q0 qo qcap _ hn6)).mono ?_⟩
  rintro e w1 ⟨fb, b3, rb, rcap, rfl, hlts, hrc, hcs, hlc, hfc, hm4, hm1, hm3, hmh, hrt, hB⟩
  simp at hlts
  try simp at hcs
  try simp at hlc
  try simp at hfc
  try simp at hm1
  have HH := Lib.hid (And.intro hcs (And.intro hlc (And.intro hfc (And.intro hm4 (And.intro hm1 (And.intro hm3 (And.intro hmh (And.intro hrt (And.intro hrc hlts)))))))))
  have kB : w1.cell? ⟨w.heap.size + 1, 0, none⟩ = some (.slice none 0 0) := by rw [hB.cell (p := ⟨w.heap.size + 1, 0, none⟩) (by simp)]; simp [go_sem]
  have kf : w1.frozen? ⟨w.heap.size + 1, 0, none⟩ = false := by rw [hB.frozen (p := ⟨w.heap.size + 1, 0, none⟩) (by simp)]; simp [go_sem]
  have hz := hB.size
  try simp at hz
  have hB1 : Below w.heap.size w w1 := (by (repeat (first | (with_reducible refine Below.drew ?_) | (with_reducible refine below_drewN ?_ _) | (with_reducible refine Below.alloc ?_ (by first | omega | (simp; done) | (simp; omega) | (simp at *; omega)) _) | (with_reducible refine Below.setCell ?_ (by first | omega | (simp; done) | (simp; omega) | (simp at *; omega)) _) | (with_reducible exact Below.refl _ _) | (with_reducible assumption) | (with_reducible refine Below.trans ?_ (Below.mono (by assumption) (by first | omega | (simp; done) | (simp; omega) | (simp at *; omega)))))))
  clear hcs hlc hfc hm4 hm1 hm3 hmh hrt hrc hB
  gi_wp2_with fail
  refine range_endG T.length (ldR vf vt vs nf vo vh T P0 K) (m := 9) (by omega) (gf := 63) (lb := #[.pointer (some ⟨w.heap.size + 1 + 1, 0, none⟩), .pointer (some ⟨w.heap.size + 1 + 1 + 1, 0, none⟩), .pointer (some ⟨fb, 0, none⟩)]) rfl (enters_of Try.func63 (by kernel_rfl) rfl) rfl (w.heap.size + 1) (b3 + 1) (by omega) (by omega) ?round ?iter ?done
  case round =>
    intro fn R W x0 x1 x2 x3 q qf c1 c2 v hN hRs hRp hl hc hf
    have hbl : w.heap.size + 1 < W.heap.size := by omega
    have hL := Lib.hid hl
    have HRs := Lib.hid (And.intro hRs hRp)
    clear hl hRs hRp
    gi_wp2
    generalize hWa : W.alloc (.cells #[.int .i64 x0, .int .i64 x1, .int .i64 x2, .int .i64 x3, .slice (some ⟨q, qf, none⟩) c1 c2] 93) = Wa
    have ha : Below W.heap.size W Wa := by rw [← hWa]; exact (Below.refl _ _).alloc (Nat.le_refl _) _
    have hla : Wa.heap[w1.heap.size + 1]? = some (.loop R) := (ha.block _ (by omega)).trans hL.out
    refine ⟨_, run_beginRound hla HRs.out.1, ?_⟩
    generalize hWb : Wa.putObj (w1.heap.size + 1) (.loop { R with state := .busy }) = Wb
    have hb : ∀ k, k ≠ w1.heap.size + 1 → Wb.heap[k]? = Wa.heap[k]? := fun k hk => by rw [← hWb]; exact World.putObj_heap_other hk
    have hbz : Wb.heap.size = Wa.heap.size := by rw [← hWb]; simp
    have hlb : Wb.heap[w1.heap.size + 1]? = some (.loop { R with state := .busy }) := by rw [← hWb]; exact World.putObj_heap_same (Array.getElem?_eq_some_iff.1 hla).1
    have haz := ha.size
    have hbo : Wb.os = W.os ∧ Wb.tape = W.tape ∧ Wb.output = W.output := by rw [← hWb]; exact ⟨ha.os, ha.tape, ha.output⟩
    have h4 : Wb.cell? ⟨W.heap.size, 4, none⟩ = some (.slice (some ⟨q, qf, none⟩) c1 c2) := (World.cell?_of_block (a := ⟨W.heap.size, 4, none⟩) (hb W.heap.size (by omega))).trans (by rw [← hWa]; simp [go_sem])
    have hcB : Wb.cell? ⟨w.heap.size + 1, 0, none⟩ = some v := (World.cell?_of_block (a := ⟨w.heap.size + 1, 0, none⟩) (hb (w.heap.size + 1) (by omega))).trans ((ha.cell (p := ⟨w.heap.size + 1, 0, none⟩) hbl).trans hc)
    have hfB : Wb.frozen? ⟨w.heap.size + 1, 0, none⟩ = false := (World.frozen?_of_block (a := ⟨w.heap.size + 1, 0, none⟩) (hb (w.heap.size + 1) (by omega))).trans ((ha.frozen (p := ⟨w.heap.size + 1, 0, none⟩) hbl).trans hf)
    have HB := Lib.hid (And.intro hb (And.intro hbz (And.intro hlb (And.intro haz (And.intro hbo ha)))))
    clear hb hbz hlb haz hbo hla hWb hWa ha hc hf
    gi_wp2
    obtain ⟨hb, hbz, hlb, haz, hbo, ha⟩ := HB.out
    have hl3 : (Wb.setCell ⟨w.heap.size + 1, 0, none⟩ (.slice (some ⟨q, qf, none⟩) c1 c2)).heap[w1.heap.size + 1]? = some (.loop { R with state := .busy }) := (Below.heap_setCell _ _ _ _ (by show w1.heap.size + 1 ≠ w.heap.size + 1; omega)).trans hlb
    refine ⟨_, _, run_endRound none hl3, rfl, ?_, ?_, ?_, ?_, hbo.1, hbo.2.1, hbo.2.2⟩
    · exact (World.cell?_of_block (a := ⟨w.heap.size + 1, 0, none⟩) (World.putObj_heap_other (by show w.heap.size + 1 ≠ w1.heap.size + 1; omega))).trans (cell_same hcB)
    · refine (World.frozen?_of_block (a := ⟨w.heap.size + 1, 0, none⟩) (World.putObj_heap_other (by show w.heap.size + 1 ≠ w1.heap.size + 1; omega))).trans ?_
      rw [World.frozen?_setCell]; exact hfB
    · simp only [World.putObj_size, size_set]; omega
    · intro k hk hkB
      by_cases hkl : k = w1.heap.size + 1
      · subst hkl
        rw [World.putObj_heap_same (Array.getElem?_eq_some_iff.1 hl3).1, hL.out]
        obtain ⟨s1, s2⟩ := HRs.out
        congr 2
        cases R
        simp only at s1 s2
        subst s1 s2
        rfl
      · rw [World.putObj_heap_other hkl, Below.heap_setCell _ _ _ _ (by exact hkB), hb k hkl]
        exact ha.block k hk
  case iter =>
    intro ol W1 hb1 hz1 hl1 hd1 hY
    obtain ⟨⟨k0, k1, k2, k3, k4, k5, k6⟩, hlc, hfc, hm4, hm1, hm3, hmh, hrt, hrc, l1, l2, l3, l4, l5⟩ := HH.out
    obtain ⟨g0, p0⟩ := HG.out
    have C : ∀ {b i : Nat}, b < w1.heap.size → W1.cell? ⟨b, i, none⟩ = w1.cell? ⟨b, i, none⟩ := fun {b i} h => hb1.cell (p := ⟨b, i, none⟩) h
    have G : ∀ {b : Nat}, b < w.heap.size → W1.heap[b]? = w.heap[b]? := fun {b} h => (hb1.block b (by omega)).trans (hB1.block b h)
    exact states1_any (w.heap.size + 1 + 1) (w.heap.size + 1 + 1 + 1) fb (b3 + 1 + 1) (w.heap.size + 1 + 1 + 1 + 1) b3 (b3 + 1) (w.heap.size + 1) tb tq tcap rb rcap q0 qo qcap vf vt vs vo vh nf T P0 _ _ (w1.heap.size + 1) w1.heap.size W1.heap.size (9 - 1) K W1 (.slice none 0 0)
      ⟨Nat.le_refl _, ⟨by omega, by omega, by omega, by omega, by omega, by omega, by omega, by omega, by omega, by omega, by omega, by omega, by omega⟩, ⟨by omega, by omega, by omega, by omega, by omega, by omega, by omega, by omega, by omega, by omega, by omega, by omega⟩, ⟨by omega, by omega, by omega, by omega, by omega, by omega, by omega, by omega, by omega, by omega, by omega, by omega⟩,
        (C (by omega)).trans k0, (C (by omega)).trans k1, (C (by omega)).trans k2, (C (by omega)).trans k3, (C (by omega)).trans k4, (C (by omega)).trans k5, (C (by omega)).trans k6, (C (by omega)).trans hlc, (C (by omega)).trans hfc, (C (by omega)).trans hm4, (C (by omega)).trans hm1, (C (by omega)).trans hm3,
        g0.blk (G htb), p0.blk (G hq0), hrt.below hb1 (by omega), hl1, hd1⟩ rfl ((hb1.block _ (by omega)).trans hmh) ⟨(C (by omega)).trans kB, (hb1.frozen (p := ⟨w.heap.size + 1, 0, none⟩) (by show w.heap.size + 1 < _; omega)).trans kf⟩ (by omega) hrc HLG HT0 HP0 HK hY
  case done =>
    intro W1 W2 e o hb1 hz1 hS hd
    obtain ⟨_, qq, qqf, qqc, e1, e2, e3, e4, e5, hx⟩ := hS
    generalize hW3 : W2.putObj (w1.heap.size + 1) o = W3
    have h3 : ∀ k, k ≠ w1.heap.size + 1 → W3.heap[k]? = W2.heap[k]? := fun k hk => by rw [← hW3]; exact World.putObj_heap_other hk
    have h3z : W3.heap.size = W2.heap.size := by rw [← hW3]; simp
    have h3o : W3.os = W2.os ∧ W3.tape = W2.tape ∧ W3.output = W2.output := by rw [← hW3]; exact ⟨rfl, rfl, rfl⟩
    have hK : W3.heap[w1.heap.size]? = some (.deferred (some [])) := (h3 _ (by omega)).trans hd
    have hcB : W3.cell? ⟨w.heap.size + 1, 0, none⟩ = some (.slice (some ⟨qq, qqf, none⟩) T.length qqc) := (World.cell?_of_block (a := ⟨w.heap.size + 1, 0, none⟩) (h3 _ (by show w.heap.size + 1 ≠ _; omega))).trans e1
    have HF := Lib.hid (And.intro h3 (And.intro h3z (And.intro h3o (And.intro hK (And.intro e5 hx)))))
    clear h3 h3z h3o hK e5 hx hd hW3 e1 e2
    gi_wp2
    obtain ⟨h3, h3z, h3o, hK, e5, hx⟩ := HF.out
    refine ⟨by simp, .inl ⟨_, _, rfl, run_takeDeferred hK, ?_⟩⟩
    refine ⟨_, results_tmp rfl _ _ _, ?_⟩
    have h4 : ∀ k, k ≠ w1.heap.size → (W3.putObj w1.heap.size (.deferred none)).heap[k]? = W3.heap[k]? := fun k hk => World.putObj_heap_other hk
    have Q : (W3.putObj w1.heap.size (.deferred none)).heap[qq]? = W2.heap[qq]? := (h4 qq (by omega)).trans (h3 qq (by omega))
    refine ⟨qq, qqf, qqc, rfl, by omega, by simp only [World.putObj_size]; omega, e5.blk Q, ?_⟩
    have hz2 := hx.size
    refine ⟨?_, ?_, ?_, ?_, ?_⟩
    · exact h3o.1.trans (hx.os.trans (hb1.os.trans hB1.os))
    · exact h3o.2.1.trans (hx.tape.trans (hb1.tape.trans hB1.tape))
    · exact h3o.2.2.trans (hx.output.trans (hb1.output.trans hB1.output))
    · simp only [World.putObj_size]; omega
    · intro k hk
      rw [h4 k (by omega), h3 k (by omega), hx.block k (by omega) (by omega) (by omega), hb1.block k (by omega), hB1.block k hk]
end Go.Proofs.Ytfaodlcfjhnhbaa
