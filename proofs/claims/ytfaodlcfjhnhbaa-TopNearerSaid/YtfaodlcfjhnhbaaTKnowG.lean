/- The decays that a course keeps, for every table and any seconds: what (course).decays and the function that it hands back return; what lies while a course yields its states. -/
import Derived.Test.YtfaodlcfjhnhbaaTEnv
import Derived.Test.YtfaodlcfjhnhbaaTSteps
import Derived.Test.YtfaodlcfjhnhbaaTClone
import Derived.Maps.RangeRun
import Derived.ChangeMaps4
import Derived.Outline
namespace Go.Proofs.Ytfaodlcfjhnhbaa
open Go.ChangeShapes Go.WideShapes Go.ChangeAt Go.RowKit
open Go.ChangeMaps (setBlock)
set_option linter.unusedVariables false
set_option linter.unusedSimpArgs false
theorem LdAt.blk {w w' : World} {b off : Nat} {L : List Ld} (h : LdAt w b off L) (hb : w'.heap[b]? = w.heap[b]?) : LdAt w' b off L := by
  intro k hk
  obtain ⟨h1, h2, h3, h4⟩ := h k hk
  have hc : ∀ o, w'.cell? ⟨b, o, none⟩ = w.cell? ⟨b, o, none⟩ := fun o => World.cell?_of_block (a := ⟨b, o, none⟩) hb
  exact ⟨by rw [hc]; exact h1, by rw [hc]; exact h2, by rw [hc]; exact h3, by rw [hc]; exact h4⟩
theorem CmAt.blk {w w' : World} {b off : Nat} {L : List Cm} (h : CmAt w b off L) (hb : w'.heap[b]? = w.heap[b]?) : CmAt w' b off L := by
  intro k hk
  obtain ⟨h1, h2, h3, h4⟩ := h k hk
  have hc : ∀ o, w'.cell? ⟨b, o, none⟩ = w.cell? ⟨b, o, none⟩ := fun o => World.cell?_of_block (a := ⟨b, o, none⟩) hb
  exact ⟨by rw [hc]; exact h1, by rw [hc]; exact h2, by rw [hc]; exact h3, by rw [hc]; exact h4⟩
theorem SlLd.lies {w : World} {b off : Nat} {L : List Ld} (h : SlLd w (some ⟨b, off, none⟩) L) (hl : 1 ≤ L.length) : b < w.heap.size ∧ LdAt w b off L := by
  rcases h with rfl | ⟨b', o', e, hb, hL⟩
  · simp at hl
  · cases e; exact ⟨hb, hL⟩
theorem SlCm.lies {w : World} {b off : Nat} {L : List Cm} (h : SlCm w (some ⟨b, off, none⟩) L) (hl : 1 ≤ L.length) : b < w.heap.size ∧ CmAt w b off L := by
  rcases h with rfl | ⟨b', o', e, hb, hL⟩
  · simp at hl
  · cases e; exact ⟨hb, hL⟩
/-- A right table. -/
def TbOk (T : List Cm) : Prop := 1 ≤ T.length ∧ T.length ≤ 16 ∧ ∀ k, (hk : k < T.length) → (1 ≤ T[k].n ∧ T[k].n ≤ 100000) ∧ 1 ≤ T[k].h ∧ T[k].h ≤ 100000
/-- The decays that are kept, each under its seconds. -/
def KnowOk (N X L : Nat) (T : List Cm) (V : World) (es : List MapEntry) : Prop := ∀ e, e ∈ es → ∃ s b, e.key = .int .i64 s ∧ e.val = .slice (some ⟨b, 0, none⟩) T.length T.length ∧ N ≤ b ∧ b ≠ X ∧ b < V.heap.size ∧ LdAt V b 0 ((List.range T.length).map (decAt s L T))
theorem KnowOk.blk {N X L : Nat} {T : List Cm} {V V' : World} {es : List MapEntry} (h : KnowOk N X L T V es) (hs : V.heap.size ≤ V'.heap.size) (hb : ∀ b, N ≤ b → b ≠ X → b < V.heap.size → V'.heap[b]? = V.heap[b]?) : KnowOk N X L T V' es := by
  intro e he
  obtain ⟨s, b, h1, h2, h3, h4, h5, h6⟩ := h e he
  exact ⟨s, b, h1, h2, h3, h4, Nat.lt_of_lt_of_le h5 hs, h6.blk (hb b h3 h4 h5)⟩
theorem undI (w : World) : (underlying 3).run Try.prog w = .ok (.int .i64) w := by kernel_rfl
theorem ckG (b : Bool) (s : Int) (w : World) : (Instr.checkKey b 10000 3 (.int .i64 s)).run Try.prog w = .ok () w := by kernel_rfl
theorem fkG (s : Int) (l : List MapEntry) (r : Option (Nat × Value)) (w : World) (hf : Instr.findNow (.int .i64) (.int .i64 s) l 0 = some r) : (Instr.findKey 3 (.int .i64 s) l).run Try.prog w = .ok r w := by
  simp only [Instr.findKey, Sem.run_bind, undI, Result.andThen, hf]
  rfl
theorem findInt {N X L : Nat} {T : List Cm} {V : World} (s : Int) : ∀ (es : List MapEntry) (i : Nat), KnowOk N X L T V es → Instr.findNow (.int .i64) (.int .i64 s) es i = some none ∨ ∃ e j, e ∈ es ∧ e.key = .int .i64 s ∧ Instr.findNow (.int .i64) (.int .i64 s) es i = some (some (j, e.val))
  | [], i, _ => Or.inl rfl
  | e :: es, i, hk0 => by
    obtain ⟨s', b, hk, hv, _⟩ := hk0 e (List.mem_cons_self ..)
    by_cases he : s = s'
    · subst he
      refine Or.inr ⟨e, i, List.mem_cons_self .., hk, ?_⟩
      simp [Instr.findNow, hk, Instr.sameNow]
    · have hbq : (s == s') = false := by simpa using he
      rcases findInt s es (i + 1) (fun e' h' => hk0 e' (List.mem_cons_of_mem _ h')) with h1 | ⟨e', j, m1, m2, m3⟩
      · left; simp [Instr.findNow, hk, Instr.sameNow, hbq, h1]
      · right; exact ⟨e', j, List.mem_cons_of_mem _ m1, m2, by simp [Instr.findNow, hk, Instr.sameNow, hbq, m3]⟩
theorem findPush {s : Int} {v : Value} {c : Nat} : ∀ (es : List MapEntry) (i : Nat), Instr.findNow (.int .i64) (.int .i64 s) es i = some none → ∃ j, Instr.findNow (.int .i64) (.int .i64 s) (es ++ [{ key := .int .i64 s, val := v, born := c }]) i = some (some (j, v))
  | [], i, _ => ⟨i, by simp [Instr.findNow, Instr.sameNow]⟩
  | e :: es, i, hk0 => by
    cases hs : Instr.sameNow (.int .i64) (.int .i64 s) e.key with
    | none => simp [Instr.findNow, hs] at hk0
    | some b =>
      cases b with
      | true => simp [Instr.findNow, hs] at hk0
      | false =>
        simp [Instr.findNow, hs] at hk0
        obtain ⟨j, hj⟩ := findPush (v := v) (c := c) es (i + 1) hk0
        exact ⟨j, by simp [Instr.findNow, hs, hj]⟩
theorem lkG0 (w : World) (r : Nat) (es : Array MapEntry) (c : Nat) (s : Int) (hb : w.heap[r]? = some (.map es c)) (hf : Instr.findNow (.int .i64) (.int .i64 s) es.toList 0 = some none) :
    (Instr.lookup 126 (.map (some r)) (.int .i64 s) false).run Try.prog w = .ok (.slice none 0 0) w := by
  simp only [Instr.lookup, Sem.run_bind, undM, Result.andThen, getObj, Sem.run, hb, ckG]
  simp [fkG s _ none w hf, zSl, Result.andThen]
theorem lkG1 (w : World) (r : Nat) (es : Array MapEntry) (c : Nat) (s : Int) (j : Nat) (v : Value) (hb : w.heap[r]? = some (.map es c)) (hf : Instr.findNow (.int .i64) (.int .i64 s) es.toList 0 = some (some (j, v))) :
    (Instr.lookup 126 (.map (some r)) (.int .i64 s) false).run Try.prog w = .ok v w := by
  simp only [Instr.lookup, Sem.run_bind, undM, Result.andThen, getObj, Sem.run, hb, ckG]
  simp [fkG s _ _ w hf, Result.andThen]
theorem upG (w : World) (r : Nat) (es : Array MapEntry) (c : Nat) (s : Int) (v : Value) (hb : w.heap[r]? = some (.map es c)) (hf : Instr.findNow (.int .i64) (.int .i64 s) es.toList 0 = some none) :
    (Instr.mapUpdate 126 (.map (some r)) (.int .i64 s) v).run Try.prog w = .ok () (setBlock w r (.map (es.push { key := .int .i64 s, val := v, born := c }) (c + 1))) := by
  simp only [Instr.mapUpdate, Sem.run_bind, undM, Result.andThen, getObj, Sem.run, hb, ckG]
  simp [Sem.run, fkG s _ none w hf, setObj, hb, setBlock]
theorem eqG (a : Addr) (n c : Nat) (w : World) : (binOp .eql 78 (.slice (some a) n c) (.slice none 0 0)).run Try.prog w = .ok (.bool false) w := by kernel_rfl
theorem LdAt.nemap {w : World} {b off r : Nat} {L : List Ld} {es : Array MapEntry} {c : Nat} (h : LdAt w b off L) (hl : 1 ≤ L.length) (hm : w.heap[r]? = some (.map es c)) : b ≠ r :=
  map_ne_cell (h 0 hl).1 hm
def KnownR (w : World) (bm N X L : Nat) (T : List Cm) (s : Int) (e : Ending) (w' : World) : Prop := ∃ b es c, e = .returned (.slice (some ⟨b, 0, none⟩) T.length T.length) ∧ (N ≤ b ∧ b ≠ X ∧ b ≠ bm ∧ b < w'.heap.size) ∧ LdAt w' b 0 ((List.range T.length).map (decAt s L T)) ∧ BelowX bm bm w.heap.size w w' ∧ w'.heap[bm]? = some (.map es c) ∧ KnowOk N X L T w' es.toList
set_option maxRecDepth 100000 in
set_option maxHeartbeats 2000000 in
theorem knows_first (T : List Cm) (s : Int) (b4 b1 b3 bm tb tq cap L b cap' N X : Nat) (es : Array MapEntry) (c : Nat) (w : World) (hT0 : Hid (TbOk T)) (s0 : 0 ≤ s) (s1 : s ≤ 1000000) (hL : L ≤ 40) (htb : tb < w.heap.size) (hlt : b < w.heap.size) (hcap : L + 1 ≤ cap') (hcap2 : cap' ≤ maxLen) (hR : RtAt w b L) (hTT : CmAt w tb tq T) (hN : N ≤ w.heap.size) (hX : X < w.heap.size) (hbmN : bm < N)
    (m4 : w.cell? ⟨b4, 0, none⟩ = some (.map (some bm))) (hm : w.heap[bm]? = some (.map es c)) (hKO : KnowOk N X L T w es.toList) (hf : Instr.findNow (.int .i64) (.int .i64 s) es.toList 0 = some none) (m1 : w.cell? ⟨b1, 5, none⟩ = some (.slice (some ⟨tb, tq, none⟩) T.length cap)) (m3 : w.cell? ⟨b3, 0, none⟩ = some (.slice (some ⟨b, 0, none⟩) (L + 1) cap')) :
    Calls Try.prog 78 #[.int .i64 s, .pointer (some ⟨b4, 0, none⟩), .pointer (some ⟨b1, 0, none⟩), .pointer (some ⟨b3, 0, none⟩)] w (KnownR w bm N X L T s) := by
  have HR := Lib.hid hR
  have HM := Lib.hid hm
  have HTT := Lib.hid hTT
  have HKO := Lib.hid hKO
  have HF := Lib.hid hf
  have hlk := lkG0 w bm es c s hm hf
  have hen := eqN
  have HC2 := Lib.hid (And.intro hcap2 (And.intro hN (And.intro hX hbmN)))
  have l4 : b4 < w.heap.size := by simpa using World.block_lt_of_cell? _ _ m4
  have l1 : b1 < w.heap.size := by simpa using World.block_lt_of_cell? _ _ m1
  have l3 : b3 < w.heap.size := by simpa using World.block_lt_of_cell? _ _ m3
  have HN4 := Lib.hid (map_ne_cell m4 hm)
  clear hR hm hcap2 hTT hKO hf hN hX hbmN
  go_enter Try.func78, Try.ntmps78
  go_wp2
  refine wp_region_Z (S := (fun w' => w'.cell? ⟨b4, 0, none⟩ = some (.map (some bm)) ∧ w'.cell? ⟨b1, 5, none⟩ = some (.slice (some ⟨tb, tq, none⟩) T.length cap) ∧ w'.cell? ⟨b3, 0, none⟩ = some (.slice (some ⟨b, 0, none⟩) (L + 1) cap'))) 7 (by kernel_rfl) (by kernel_rfl) (by kernel_rfl) (by simp [go_sem, World.cell?_alloc_past, *]) (fun hHeld => ?_)
  refine wpAnyZ_take (i := 0) (oi := ⟨some 10, _, _, _, _, _⟩) (v := ?_) (by kernel_rfl) (by kernel_rfl) rfl rfl (by kernel_rfl) (by kernel_rfl) (by kernel_rfl) (fun _ _ _ h => h) (Or.inl ⟨by kernel_rfl, ?_⟩) (by assumption) ?_
  rotate_left
  · (intro w hSw; (try dsimp only at hSw); go_simp; all_goals with_reducible rfl)
  try simp only [Act.put, List.setIfInBounds_toArray, List.set_cons_zero, List.set_cons_succ]
  refine wpAnyZ_take (i := 1) (oi := ⟨some 11, _, _, _, _, _⟩) (v := ?_) (by kernel_rfl) (by kernel_rfl) rfl rfl (by kernel_rfl) (by kernel_rfl) (by kernel_rfl) (fun _ _ _ h => h) (Or.inl ⟨by kernel_rfl, ?_⟩) (by assumption) ?_
  rotate_left
  · (intro w hSw; (try dsimp only at hSw); go_simp; all_goals with_reducible rfl)
  try simp only [Act.put, List.setIfInBounds_toArray, List.set_cons_zero, List.set_cons_succ]
  refine wpAnyZ_take (i := 2) (oi := ⟨some 12, _, _, _, _, _⟩) (v := ?_) (by kernel_rfl) (by kernel_rfl) rfl rfl (by kernel_rfl) (by kernel_rfl) (by kernel_rfl) (fun _ _ _ h => h) (Or.inl ⟨by kernel_rfl, ?_⟩) (by assumption) ?_
  rotate_left
  · (intro w hSw; (try dsimp only at hSw); go_simp; all_goals with_reducible rfl)
  try simp only [Act.put, List.setIfInBounds_toArray, List.set_cons_zero, List.set_cons_succ]
  refine wpAnyZ_take (i := 3) (oi := ⟨some 13, _, _, _, _, _⟩) (v := ?_) (by kernel_rfl) (by kernel_rfl) rfl rfl (by kernel_rfl) (by kernel_rfl) (by kernel_rfl) (fun _ _ _ h => h) (Or.inl ⟨by kernel_rfl, ?_⟩) (by assumption) ?_
  rotate_left
  · (intro w hSw; (try dsimp only at hSw); go_simp; all_goals with_reducible rfl)
  try simp only [Act.put, List.setIfInBounds_toArray, List.set_cons_zero, List.set_cons_succ]
  refine wpAnyZ_take (i := 4) (oi := ⟨some 14, _, _, _, _, _⟩) (v := ?_) (by kernel_rfl) (by kernel_rfl) rfl rfl (by kernel_rfl) (by kernel_rfl) (by kernel_rfl) (fun _ _ _ h => h) (Or.inl ⟨by kernel_rfl, ?_⟩) (by assumption) ?_
  rotate_left
  · (intro w hSw; (try dsimp only at hSw); go_simp; all_goals with_reducible rfl)
  try simp only [Act.put, List.setIfInBounds_toArray, List.set_cons_zero, List.set_cons_succ]
  refine wpAnyZ_take (i := 5) (oi := ⟨some 15, _, _, _, _, _⟩) (v := ?_) (by kernel_rfl) (by kernel_rfl) rfl rfl (by kernel_rfl) (by kernel_rfl) (by kernel_rfl) (fun _ _ _ h => h) (Or.inl ⟨by kernel_rfl, ?_⟩) (by assumption) ?_
  rotate_left
  · (intro w hSw; (try dsimp only at hSw); go_simp; all_goals with_reducible rfl)
  try simp only [Act.put, List.setIfInBounds_toArray, List.set_cons_zero, List.set_cons_succ]
  refine wpAnyZ_call (q := 6) (by kernel_rfl) rfl rfl (fun K hK => ?_)
  go_simp
  have hTl := hT0.out.1
  refine (decaysOf_all T (some ⟨tb, tq, none⟩) cap s L b cap' w.drew hT0.out.1 hT0.out.2.1 hT0.out.2.2 s0 s1 hL hlt hcap HC2.out.1 (HR.out.below (n := w.heap.size) (by (repeat (first | (with_reducible refine Below.drew ?_) | (with_reducible refine below_drewN ?_ _) | (with_reducible refine Below.alloc ?_ (by first | omega | (simp; done) | (simp; omega) | (simp at *; omega)) _) | (with_reducible refine Below.setCell ?_ (by first | omega | (simp; done) | (simp; omega) | (simp at *; omega)) _) | (with_reducible exact Below.refl _ _) | (with_reducible assumption) | (with_reducible refine Below.trans ?_ (Below.mono (by assumption) (by first | omega | (simp; done) | (simp; omega) | (simp at *; omega))))))) hlt) (Or.inr ⟨tb, tq, rfl, htb, HTT.out.below (n := w.heap.size) (by (repeat (first | (with_reducible refine Below.drew ?_) | (with_reducible refine below_drewN ?_ _) | (with_reducible refine Below.alloc ?_ (by first | omega | (simp; done) | (simp; omega) | (simp at *; omega)) _) | (with_reducible refine Below.setCell ?_ (by first | omega | (simp; done) | (simp; omega) | (simp at *; omega)) _) | (with_reducible exact Below.refl _ _) | (with_reducible assumption) | (with_reducible refine Below.trans ?_ (Below.mono (by assumption) (by first | omega | (simp; done) | (simp; omega) | (simp at *; omega))))))) htb⟩)).mono ?_
  rintro e v1 ⟨bb, rfl, hb1, hSl, hbw⟩
  have z1 := hbw.size
  try simp at z1
  try simp at hb1
  try simp only [World.drew_heap] at hbw
  have q4 : v1.cell? ⟨b4, 0, none⟩ = some (.map (some bm)) := by rw [(bcell hbw).1 _ _ (by first | (simp; done) | (simp; omega) | omega)]; simp [go_sem, *]
  have q1 : v1.cell? ⟨b1, 5, none⟩ = some (.slice (some ⟨tb, tq, none⟩) T.length cap) := by rw [(bcell hbw).1 _ _ (by first | (simp; done) | (simp; omega) | omega)]; simp [go_sem, *]
  have q3 : v1.cell? ⟨b3, 0, none⟩ = some (.slice (some ⟨b, 0, none⟩) (L + 1) cap') := by rw [(bcell hbw).1 _ _ (by first | (simp; done) | (simp; omega) | omega)]; simp [go_sem, *]
  have lm : bm < w.heap.size := (Array.getElem?_eq_some_iff.1 HM.out).1
  have HB2 : Below w.heap.size w v1 := (by (repeat (first | (with_reducible refine Below.drew ?_) | (with_reducible refine below_drewN ?_ _) | (with_reducible refine Below.alloc ?_ (by first | omega | (simp; done) | (simp; omega) | (simp at *; omega)) _) | (with_reducible refine Below.setCell ?_ (by first | omega | (simp; done) | (simp; omega) | (simp at *; omega)) _) | (with_reducible exact Below.refl _ _) | (with_reducible assumption) | (with_reducible refine Below.trans ?_ (Below.mono (by assumption) (by first | omega | (simp; done) | (simp; omega) | (simp at *; omega)))))))
  have hm1 : v1.heap[bm]? = some (.map es c) := (HB2.block bm lm).trans HM.out
  have lm1 : bm < v1.heap.size := by omega
  obtain ⟨W9, hW9⟩ : ∃ W, Hid (setBlock v1 bm (.map (es.push { key := .int .i64 s, val := .slice (some ⟨bb, 0, none⟩) T.length T.length, born := c }) (c + 1)) = W) := ⟨_, rfl⟩
  have up := upG v1 bm es c s (.slice (some ⟨bb, 0, none⟩) T.length T.length) hm1 HF.out
  obtain ⟨jj, hjj⟩ := findPush (v := .slice (some ⟨bb, 0, none⟩) T.length T.length) (c := c) es.toList 0 HF.out
  have lk := lkG1 (setBlock v1 bm (.map (es.push { key := .int .i64 s, val := .slice (some ⟨bb, 0, none⟩) T.length T.length, born := c }) (c + 1))) bm _ (c + 1) s jj _ (setBlock_at _ _ _ lm1) (by rw [Array.toList_push]; exact hjj)
  have cc := (setBlock_cell v1 bm b4 0 (.map (es.push { key := .int .i64 s, val := .slice (some ⟨bb, 0, none⟩) T.length T.length, born := c }) (c + 1)) HN4.out).trans q4
  rw [hW9.out] at up lk cc
  have HQ := Lib.hid (And.intro hb1 hSl)
  have HH1 := Lib.hid hm1
  clear hbw hm1 hSl hb1 hlk lm lm1 hjj hTl
  go_wp2_with fail
  refine hK.out _ _ (by simp [go_sem, World.cell?_alloc_past, *]) (fun hHeld => ?_)
  clear hK K
  try simp only [Act.put, List.setIfInBounds_toArray, List.set_cons_zero, List.set_cons_succ]
  refine wpAnyZ_last (by kernel_rfl) rfl (fun K hK => ?_)
  go_simp
  go_wp2_with fail
  refine hK.out _ _ ?_
  clear hK K
  try simp only [Act.put, List.setIfInBounds_toArray, List.set_cons_zero, List.set_cons_succ]
  clear hHeld q4 q1 q3 m4 m1 m3 up
  go_wp2
  go_ret
  obtain ⟨hb1, hSl⟩ := HQ.out
  obtain ⟨_, hN, hX, hbmN⟩ := HC2.out
  obtain ⟨k1, k2⟩ := hSl.lies (by simpa using hT0.out.1)
  have hnm : bb ≠ bm := by omega
  have h9 := hW9.out.symm
  have hz9 : W9.heap.size = v1.heap.size := by rw [h9, setBlock_size]
  have hblk : ∀ k, k ≠ bm → W9.heap[k]? = v1.heap[k]? := fun k hk => by rw [h9]; exact setBlock_ne _ _ _ _ hk
  have lm1 : bm < v1.heap.size := (Array.getElem?_eq_some_iff.1 HH1.out).1
  have hL9 : LdAt W9 bb 0 ((List.range T.length).map (decAt s L T)) := k2.blk (hblk bb hnm)
  have hk9 : KnowOk N X L T W9 es.toList := HKO.out.blk (by omega) (fun b' e1 e2 e3 => (hblk b' (by omega)).trans (HB2.block b' e3))
  refine ⟨bb, es.push { key := .int .i64 s, val := .slice (some ⟨bb, 0, none⟩) T.length T.length, born := c }, c + 1, rfl, ⟨by omega, by omega, hnm, by omega⟩, hL9, ⟨?_, ?_, ?_, by omega, fun k hk hk2 _ => (hblk k hk2).trans (HB2.block k hk)⟩, by rw [h9]; exact setBlock_at _ _ _ lm1, ?_⟩
  · rw [h9]; exact HB2.os
  · rw [h9]; exact HB2.tape
  · rw [h9]; exact HB2.output
  · intro e he
    rw [Array.toList_push] at he
    rcases List.mem_append.1 he with he | he
    · exact hk9 e he
    · simp at he
      subst he
      exact ⟨s, bb, rfl, rfl, by omega, by omega, by omega, hL9⟩
set_option maxRecDepth 100000 in
set_option maxHeartbeats 1000000 in
theorem knows_again (T : List Cm) (s : Int) (b4 b1 b3 bm bb j : Nat) (es : Array MapEntry) (c : Nat) (w : World)
    (m4 : w.cell? ⟨b4, 0, none⟩ = some (.map (some bm))) (hm : w.heap[bm]? = some (.map es c)) (hf : Instr.findNow (.int .i64) (.int .i64 s) es.toList 0 = some (some (j, .slice (some ⟨bb, 0, none⟩) T.length T.length))) :
    Calls Try.prog 78 #[.int .i64 s, .pointer (some ⟨b4, 0, none⟩), .pointer (some ⟨b1, 0, none⟩), .pointer (some ⟨b3, 0, none⟩)] w fun e w' => e = .returned (.slice (some ⟨bb, 0, none⟩) T.length T.length) ∧ w = w' := by
  have hlk := lkG1 w bm es c s j _ hm hf
  have hen := eqG ⟨bb, 0, none⟩ T.length T.length
  clear hm hf
  go_enter Try.func78, Try.ntmps78
  go_wp2
  go_ret
  exact ⟨rfl, rfl⟩
theorem knows_any (T : List Cm) (s : Int) (b4 b1 b3 bm tb tq cap L b cap' N X : Nat) (es : Array MapEntry) (c : Nat) (w : World) (hT0 : Hid (TbOk T)) (s0 : 0 ≤ s) (s1 : s ≤ 1000000) (hL : L ≤ 40) (htb : tb < w.heap.size) (hlt : b < w.heap.size) (hcap : L + 1 ≤ cap') (hcap2 : cap' ≤ maxLen) (hR : RtAt w b L) (hTT : CmAt w tb tq T) (hN : N ≤ w.heap.size) (hX : X < w.heap.size) (hbmN : bm < N)
    (m4 : w.cell? ⟨b4, 0, none⟩ = some (.map (some bm))) (hm : w.heap[bm]? = some (.map es c)) (hKO : KnowOk N X L T w es.toList) (m1 : w.cell? ⟨b1, 5, none⟩ = some (.slice (some ⟨tb, tq, none⟩) T.length cap)) (m3 : w.cell? ⟨b3, 0, none⟩ = some (.slice (some ⟨b, 0, none⟩) (L + 1) cap')) :
    Calls Try.prog 78 #[.int .i64 s, .pointer (some ⟨b4, 0, none⟩), .pointer (some ⟨b1, 0, none⟩), .pointer (some ⟨b3, 0, none⟩)] w (KnownR w bm N X L T s) := by
  rcases findInt s es.toList 0 hKO with hf | ⟨e, j, he, hk, hf⟩
  · exact knows_first T s b4 b1 b3 bm tb tq cap L b cap' N X es c w hT0 s0 s1 hL htb hlt hcap hcap2 hR hTT hN hX hbmN m4 hm hKO hf m1 m3
  · obtain ⟨s', bb, k1, k2, k3, k4, k5, k6⟩ := hKO e he
    rw [hk] at k1
    obtain rfl : s = s' := by injection k1
    rw [k2] at hf
    refine (knows_again T s b4 b1 b3 bm bb j es c w m4 hm hf).mono ?_
    rintro e' w' ⟨rfl, rfl⟩
    exact ⟨bb, es, c, rfl, ⟨k3, k4, by omega, k5⟩, k6, BelowX.refl _ _ _ _, hm, hKO⟩
/-- The blocks of a course that is followed. -/
structure EnvG (cb lx fb b4 b1 b3 bm bB tb tq tcap rb rcap q0 qo qcap : Nat) (vf vt vs vo vh : Int) (nf : Nat) (T : List Cm) (P0 : List Ld) (ol od : Obj) (l D N : Nat) (w : World) : Prop where
  le : N ≤ w.heap.size
  lt : cb < N ∧ lx < N ∧ fb < N ∧ b4 < N ∧ b1 < N ∧ b3 < N ∧ bm < N ∧ bB < N ∧ tb < N ∧ rb < N ∧ q0 < N ∧ l < N ∧ D < N
  ne : cb ≠ bB ∧ lx ≠ bB ∧ fb ≠ bB ∧ b4 ≠ bB ∧ b1 ≠ bB ∧ b3 ≠ bB ∧ bm ≠ bB ∧ tb ≠ bB ∧ rb ≠ bB ∧ q0 ≠ bB ∧ l ≠ bB ∧ D ≠ bB
  nm : cb ≠ bm ∧ lx ≠ bm ∧ fb ≠ bm ∧ b4 ≠ bm ∧ b1 ≠ bm ∧ b3 ≠ bm ∧ bB ≠ bm ∧ tb ≠ bm ∧ rb ≠ bm ∧ q0 ≠ bm ∧ l ≠ bm ∧ D ≠ bm
  c0 : w.cell? ⟨cb, 0, none⟩ = some (.int .i64 vf)
  c1 : w.cell? ⟨cb, 1, none⟩ = some (.int .i64 vt)
  c2 : w.cell? ⟨cb, 2, none⟩ = some (.int .i64 vs)
  c3 : w.cell? ⟨cb, 3, none⟩ = some (.int .i64 vo)
  c4 : w.cell? ⟨cb, 4, none⟩ = some (.int .i64 vh)
  c5 : w.cell? ⟨cb, 5, none⟩ = some (.slice (some ⟨tb, tq, none⟩) T.length tcap)
  c6 : w.cell? ⟨cb, 6, none⟩ = some (.int .i64 nf)
  lc : w.cell? ⟨lx, 0, none⟩ = some (.slice (some ⟨q0, qo, none⟩) T.length qcap)
  fc : w.cell? ⟨fb, 0, none⟩ = some (.func (.func 78) #[] #[.pointer (some ⟨b4, 0, none⟩), .pointer (some ⟨b1, 0, none⟩), .pointer (some ⟨b3, 0, none⟩)])
  m4 : w.cell? ⟨b4, 0, none⟩ = some (.map (some bm))
  m1 : w.cell? ⟨b1, 5, none⟩ = some (.slice (some ⟨tb, tq, none⟩) T.length tcap)
  m3 : w.cell? ⟨b3, 0, none⟩ = some (.slice (some ⟨rb, 0, none⟩) (8 + 2 * nf + 1) rcap)
  tt : CmAt w tb tq T
  pp : LdAt w q0 qo P0
  rt : RtAt w rb (8 + 2 * nf)
  rl : w.heap[l]? = some ol
  rd : w.heap[D]? = some od
theorem EnvG.keep {cb lx fb b4 b1 b3 bm bB tb tq tcap rb rcap q0 qo qcap : Nat} {vf vt vs vo vh : Int} {nf : Nat} {T : List Cm} {P0 : List Ld} {ol od : Obj} {l D N : Nat} {w w' : World} (e : EnvG cb lx fb b4 b1 b3 bm bB tb tq tcap rb rcap q0 qo qcap vf vt vs vo vh nf T P0 ol od l D N w) (hb : BelowX bm bB N w w') : EnvG cb lx fb b4 b1 b3 bm bB tb tq tcap rb rcap q0 qo qcap vf vt vs vo vh nf T P0 ol od l D N w' := by
  obtain ⟨l1, l2, l3, l4, l5, l6, l7, l8, l9, l10, l11, l12, l13⟩ := e.lt
  obtain ⟨n1, n2, n3, n4, n5, n6, n7, n9, n10, n11, n12, n13⟩ := e.ne
  obtain ⟨k1, k2, k3, k4, k5, k6, k7, k9, k10, k11, k12, k13⟩ := e.nm
  have HC : ∀ {b i : Nat} {v : Value}, b < N → b ≠ bm → b ≠ bB → w.cell? ⟨b, i, none⟩ = some v → w'.cell? ⟨b, i, none⟩ = some v := fun h1 h2 h3 h4 => (hb.cell h1 h2 h3).trans h4
  exact ⟨Nat.le_trans e.le hb.size, e.lt, e.ne, e.nm, HC l1 k1 n1 e.c0, HC l1 k1 n1 e.c1, HC l1 k1 n1 e.c2, HC l1 k1 n1 e.c3, HC l1 k1 n1 e.c4, HC l1 k1 n1 e.c5, HC l1 k1 n1 e.c6, HC l2 k2 n2 e.lc, HC l3 k3 n3 e.fc, HC l4 k4 n4 e.m4, HC l5 k5 n5 e.m1, HC l6 k6 n6 e.m3,
    e.tt.blk (hb.block tb l9 k9 n9), e.pp.blk (hb.block q0 l11 k11 n11), fun k u hk => (hb.cell l10 k10 n10).trans (e.rt k u hk), (hb.block l l12 k12 n12).trans e.rl, (hb.block D l13 k13 n13).trans e.rd⟩
end Go.Proofs.Ytfaodlcfjhnhbaa
