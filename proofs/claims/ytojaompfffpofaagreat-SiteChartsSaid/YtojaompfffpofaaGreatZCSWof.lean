import Derived.Test.YtojaompfffpofaaGreatZCSJn
import Derived.Outline
namespace Go.Proofs.YtojaompfffpofaaGreat
open Go.ChangeShapes Go.WideShapes Go.ChangeAt Go.RowKit
set_option linter.unusedVariables false
set_option linter.unusedSimpArgs false
attribute [local go_sem ↓] Go.wp_at_zero Go.wp_at_succ
theorem own_set {w : World} {base : Nat} {e : TypeId} {size n cap g : Nat} {xs : List Value} (h : w.ownsRow base e size (.slice (some ⟨g, 0, none⟩) n cap) n xs) {j : Nat} (hj : j < n * size) (u : Value) : (w.setCell ⟨g, j, none⟩ u).ownsRow base e size (.slice (some ⟨g, 0, none⟩) n cap) n (xs.set j u) := by
  obtain ⟨h1, h2⟩ := h
  refine ⟨by rw [List.length_set]; exact h1, ?_⟩
  rcases h2 with ⟨h3, _⟩ | ⟨g', cap', cur, hv, hg, hh, hle, hcap, hs, ht⟩
  · cases h3
  · injection hv with e1 e2 e3
    injection e1 with e1
    injection e1 with e1
    subst e1 e3
    refine .inr ⟨g, cap, cur.setIfInBounds j u, rfl, hg, ?_, hle, hcap, by rw [Array.size_setIfInBounds]; exact hs, ?_⟩
    · simp [World.setCell, Array.getElem?_modify, hh]
    · rw [Array.toList_setIfInBounds, List.take_set, ht]
def intV (x : Int) : List Value := [.int .i64 x]
/-- The list with another end of its last window. -/
def setHi (l : List Rg) (x : Int) : List Rg := l.set (l.length - 1) ⟨(l.getD (l.length - 1) default).lo, x⟩
def wst (f : Int → Bool) (s : List Rg × Bool) (m : Int) : List Rg × Bool := if f m = true then (if s.2 = true then s else (s.1 ++ [⟨m, 0⟩], true)) else (if s.2 = true then (setHi s.1 (m - 1), false) else s)
def wof (f : Int → Bool) (M : List Int) : List Rg × Bool := M.foldl (wst f) ([], false)
theorem wof_snoc (f : Int → Bool) (M : List Int) (m : Int) : wof f (M ++ [m]) = wst f (wof f M) m := by simp [wof]
theorem wof_ne (f : Int → Bool) (M : List Int) : (wof f M).2 = true → (wof f M).1 ≠ [] := by
  have key : ∀ (M : List Int) (s : List Rg × Bool), (s.2 = true → s.1 ≠ []) → ((M.foldl (wst f) s).2 = true → (M.foldl (wst f) s).1 ≠ []) := by
    intro M
    induction M with
    | nil => intro s h; exact h
    | cons m r ih =>
      intro s h
      refine ih _ ?_
      unfold wst
      split
      · split
        · exact h
        · intro _; simp
      · split
        · intro h2; cases h2
        · exact h
  exact key M _ (by intro h; cases h)
theorem rowsV_setHi (l : List Rg) (x : Int) (h : l ≠ []) : rowsV rgV (setHi l x) = (rowsV rgV l).set ((l.length - 1) * 2 + 1) (.int .i64 x) := by
  obtain ⟨p, r, rfl⟩ : ∃ p r, l = p ++ [r] := ⟨l.dropLast, l.getLast h, (List.dropLast_concat_getLast h).symm⟩
  have e : (p ++ [r]).length - 1 = p.length := by simp
  have hr : (p ++ [r]).getD p.length default = r := by simp
  unfold setHi
  rw [e, hr, rowsV_app, List.set_append_right _ _ (Nat.le_refl _)]
  have hl := rowsV_len (f := rgV) (n := 2) (fun _ => rfl) p
  rw [List.set_append_right _ _ (by rw [hl]; omega), hl, rowsV_app, show p.length * 2 + 1 - p.length * 2 = 1 by omega]
  simp [rowsV, rgV]
/-- What windowsOf returns. -/
def WofP (L : List Rg) (w : World) (e : Ending) (w' : World) : Prop := ∃ (G : Option Addr) (cap : Nat), e = .returned (.tuple #[.slice G L.length cap, .int .i64 0]) ∧ SlRows rgV 2 w' G L ∧ (G = none → cap = 0) ∧ Below w.heap.size w w'
set_option maxRecDepth 100000 in
set_option maxHeartbeats 4000000 in
theorem windowsOf_is (f : Int → Bool) (M : List Int) (A : Option Addr) (cap n f0 ba bb : Nat) (w : World) (hn : Hid (n = M.length)) (hl : n ≤ 60) (hM : ∀ x ∈ M, -1000000 ≤ x ∧ x ≤ 2000000)
    (HR : Hid (∀ w' : World, Below w.heap.size w w' → SlRows intV 1 w' A M))
    (HC : Hid (∀ (m : Int) (w' : World), Below w.heap.size w w' → Calls Tryz.prog 119 #[.int .i64 m, .pointer (some ⟨f0, 0, none⟩), .pointer (some ⟨ba, 0, none⟩), .pointer (some ⟨bb, 0, none⟩)] w' fun e w'' => e = .returned (.bool (f m)) ∧ Below w'.heap.size w' w'')) :
    Calls Tryz.prog 109 #[.slice A n cap, .func (.func 119) #[] #[.pointer (some ⟨f0, 0, none⟩), .pointer (some ⟨ba, 0, none⟩), .pointer (some ⟨bb, 0, none⟩)]] w (WofP (wof f M).1 w) := by
  have HMM := Lib.hid hM
  obtain ⟨i0, hi, hz0, hz1, hz2⟩ := info_partsS infoRg
  have HI := Lib.hid hi
  have HZ0 := Lib.hid hz0
  have HZ1 := Lib.hid hz1
  have HZ2 := Lib.hid hz2
  clear hi hz0 hz1 hz2 hM
  go_enter Tryz.func109, Tryz.ntmps109
  go_wp2
  go_loopw [6, 7, 13] (fun l o i wr => ∃ (k q : Nat) (G : Option Addr) (cg : Nat) (b : Bool), i = .int .i64 k ∧ k ≤ n ∧ l = .slice G q cg ∧ o = .bool b ∧ q ≤ k ∧ Hid ((wof f (M.take k)).1.length = q ∧ (wof f (M.take k)).2 = b) ∧ Hid (wr.ownsRow w.heap.size 26 2 (.slice G q cg) q (rowsV rgV (wof f (M.take k)).1)) ∧ Below w.heap.size w wr) (fun _ _ i _ => n - (intOf i).toNat)
  case atStart => exact ⟨0, 0, none, 0, false, rfl, by omega, rfl, rfl, by omega, Lib.hid ⟨rfl, rfl⟩, Lib.hid ⟨rfl, .inl ⟨rfl, rfl⟩⟩, (by (repeat (first | (with_reducible refine Below.drew ?_) | (with_reducible refine below_drewN ?_ _) | (with_reducible refine Below.alloc ?_ (by first | omega | (simp; done) | (simp; omega) | (simp at *; omega)) _) | (with_reducible refine Below.setCell ?_ (by first | omega | (simp; done) | (simp; omega) | (simp at *; omega)) _) | (with_reducible exact Below.refl _ _) | (with_reducible assumption) | (with_reducible refine Below.trans ?_ (Below.mono (by assumption) (by first | omega | (simp; done) | (simp; omega) | (simp at *; omega)))))))⟩
  case round =>
    obtain ⟨k, q, G, cg, b, rfl, hk, rfl, rfl, hqk, hst, HO, hB⟩ := hrel
    have hsz := hB.size
    by_cases hkn : k < n
    · have hkl : k < M.length := by have := hn.out; omega
      have kn : (k : Int) < (n : Int) := by omega
      rcases HR.out _ hB with h0 | ⟨bl, off, rfl, hlt, hRa⟩
      · rw [h0] at hkl; simp at hkl
      have c0 := hRa k hkl 0 (by omega)
      rw [show (intV M[k])[0]? = some (.int .i64 M[k]) from rfl, Nat.add_zero, Nat.mul_one] at c0
      obtain ⟨mb0, mb1⟩ := HMM.out _ (List.getElem_mem hkl)
      have htk : M.take (k + 1) = M.take k ++ [M[k]] := List.take_succ_eq_append_getElem hkl
      obtain ⟨m, hm⟩ : ∃ m, Hid (M[k] = m) := ⟨_, Lib.hid rfl⟩
      rw [hm.out] at c0 htk mb0 mb1
      have hstep : wof f (M.take (k + 1)) = wst f (wof f (M.take k)) m := by rw [htk, wof_snoc]
      obtain ⟨p, hp⟩ : ∃ p, Hid (f m = p) := ⟨_, Lib.hid rfl⟩
      have hcall := HC.out m wr hB
      rw [hp.out] at hcall
      have HCL := Lib.hid hcall
      have w1 : IntKind.i64.wrap (m - 1) = m - 1 := IntWalk.i64_in _ (by omega)
      clear hcall htk hRa
      cases p with
      | true =>
        cases b with
        | true =>
          have HS : Hid (wof f (M.take (k + 1)) = wof f (M.take k)) := Lib.hid (by rw [hstep, wst, if_pos hp.out, if_pos hst.out.2])
          clear hstep
          go_wp2_with fail
          refine HCL.out.mono ?_
          rintro e x1 ⟨rfl, hb1⟩
          have hB1 : Below w.heap.size w x1 := hB.trans (hb1.mono hB.size)
          have HO1 := Lib.hid (own_below HO.out hb1 (Nat.le_refl _))
          clear hb1
          go_wp2
          go_roundw
          case rel => exact ⟨k + 1, q, G, cg, true, by go_num, by omega, rfl, rfl, by omega, Lib.hid (by rw [HS.out]; exact hst.out), Lib.hid (by rw [HS.out]; exact HO1.out), hB1⟩
          case measure => (simp [intOf]) <;> omega
        | false =>
          have HS : Hid (wof f (M.take (k + 1)) = ((wof f (M.take k)).1 ++ [(⟨m, 0⟩ : Rg)], true)) := Lib.hid (by rw [hstep, wst, if_pos hp.out, if_neg (by rw [hst.out.2]; exact Bool.false_ne_true)])
          have HRW : Hid (rowsV rgV ((wof f (M.take k)).1 ++ [(⟨m, 0⟩ : Rg)]) = rowsV rgV (wof f (M.take k)).1 ++ [.int .i64 m, .int .i64 0]) := Lib.hid (by rw [rowsV_app]; rfl)
          clear hstep
          go_wp2_with fail
          refine HCL.out.mono ?_
          rintro e x1 ⟨rfl, hb1⟩
          have hB1 : Below w.heap.size w x1 := hB.trans (hb1.mono hB.size)
          have HO1 := Lib.hid (own_below HO.out hb1 (Nat.le_refl _))
          have s1 := hB1.size
          clear hb1
          go_wp2_with (at_builtin; refine wpList_append_own_at _ rfl _ _ 32 rfl w.heap.size 26 i0 (.agg #[.int .i64 0, .int .i64 0]) 2 16 Tryz.underlying32 HI.out HZ0.out HZ1.out HZ2.out rfl (by decide) _ _ _ rfl (own_below HO1.out (by exact (by (repeat (first | (with_reducible refine Below.drew ?_) | (with_reducible refine below_drewN ?_ _) | (with_reducible refine Below.alloc ?_ (by first | omega | (simp; done) | (simp; omega) | (simp at *; omega)) _) | (with_reducible refine Below.setCell ?_ (by first | omega | (simp; done) | (simp; omega) | (simp at *; omega)) _) | (with_reducible exact Below.refl _ _) | (with_reducible assumption) | (with_reducible refine Below.trans ?_ (Below.mono (by assumption) (by first | omega | (simp; done) | (simp; omega) | (simp at *; omega)))))))) (Nat.le_refl _)) ⟨x1.heap.size, 0, none⟩ 1 1 [.int .i64 m, .int .i64 0] rfl rfl ?a0 ?a1 ?a2 ?a3 ?a4 ?_)
          case a0 =>
            intro j v hj
            match j, hj with
            | 0, hj => simp at hj; subst hj; simp [Addr.add, go_sem]
            | 1, hj => simp at hj; subst hj; simp [Addr.add, go_sem]
          case a1 => intro v hv; simp at hv; rcases hv with rfl | rfl <;> rfl
          case a2 => unfold maxLen; omega
          case a3 => omega
          case a4 => simp; omega
          intro v' x5 hown hgrow hnn hblk
          have hB5 : Below w.heap.size w x5 := Below.grown (by exact (by (repeat (first | (with_reducible refine Below.drew ?_) | (with_reducible refine below_drewN ?_ _) | (with_reducible refine Below.alloc ?_ (by first | omega | (simp; done) | (simp; omega) | (simp at *; omega)) _) | (with_reducible refine Below.setCell ?_ (by first | omega | (simp; done) | (simp; omega) | (simp at *; omega)) _) | (with_reducible exact Below.refl _ _) | (with_reducible assumption) | (with_reducible refine Below.trans ?_ (Below.mono (by assumption) (by first | omega | (simp; done) | (simp; omega) | (simp at *; omega)))))))) hgrow (by simp; omega) (fun r hr => (own_block HO1.out r hr).1)
          have hown2 : x5.ownsRow w.heap.size 26 2 v' ((wof f (M.take k)).1 ++ [(⟨m, 0⟩ : Rg)]).length (rowsV rgV ((wof f (M.take k)).1 ++ [(⟨m, 0⟩ : Rg)])) := by rw [HRW.out, List.length_append, hst.out.1]; exact hown
          obtain ⟨G5, cg5, hv5, _, _, _, _, _⟩ := SlRows_own (f := rgV) (n := 2) (fun _ => rfl) hown2
          rw [List.length_append, hst.out.1] at hv5
          simp only [List.length_cons, List.length_nil, Nat.zero_add] at hv5
          subst hv5
          have HO5 : Hid (x5.ownsRow w.heap.size 26 2 (.slice G5 (q + 1) cg5) (q + 1) (rowsV rgV ((wof f (M.take k)).1 ++ [(⟨m, 0⟩ : Rg)]))) := Lib.hid (by rw [List.length_append, hst.out.1] at hown2; exact hown2)
          clear hown hown2 hgrow hnn hblk
          go_wp2
          go_roundw
          case rel => exact ⟨k + 1, q + 1, G5, cg5, true, by go_num, by omega, rfl, rfl, by omega, Lib.hid (by rw [HS.out]; exact ⟨by simp [hst.out.1], rfl⟩), Lib.hid (by rw [HS.out]; exact HO5.out), hB5⟩
          case measure => (simp [intOf]) <;> omega
      | false =>
        cases b with
        | true =>
          have hne := wof_ne f (M.take k) hst.out.2
          have HS : Hid (wof f (M.take (k + 1)) = (setHi (wof f (M.take k)).1 (m - 1), false)) := Lib.hid (by rw [hstep, wst, if_neg (by rw [hp.out]; exact Bool.false_ne_true), if_pos hst.out.2])
          have HRW := Lib.hid (rowsV_setHi (wof f (M.take k)).1 (m - 1) hne)
          rw [hst.out.1] at HRW
          have q1 : 1 ≤ q := by rw [← hst.out.1]; exact List.length_pos_iff.2 hne
          have qi : (1 : Int) ≤ (q : Int) := by omega
          have w2 : IntKind.i64.wrap ((q : Int) - 1) = (q : Int) - 1 := IntWalk.i64_in _ (by omega)
          have j2 : (0 : Int) ≤ (q : Int) - 1 := by omega
          have j3 : ((q : Int) - 1).toNat = q - 1 := by omega
          have j4 : (q : Int) - 1 < (q : Int) := by omega
          clear hstep hne
          go_wp2_with fail
          refine HCL.out.mono ?_
          rintro e x1 ⟨rfl, hb1⟩
          have hB1 : Below w.heap.size w x1 := hB.trans (hb1.mono hB.size)
          have hO1 := own_below HO.out hb1 (Nat.le_refl _)
          clear hb1
          obtain ⟨g, rfl, hgb, y0, yf⟩ : ∃ g, G = some ⟨g, 0, none⟩ ∧ w.heap.size ≤ g ∧ (∃ v, x1.cell? ⟨g, (q - 1) * 2 + 1, none⟩ = some v) ∧ x1.frozen? ⟨g, (q - 1) * 2 + 1, none⟩ = false := by
            rcases hO1.2 with ⟨hv, h0⟩ | ⟨g, cap', cur, hv, hg, hh, hle, hcap, hs, ht⟩
            · omega
            · injection hv with e1 e2 e3
              refine ⟨g, e1, hg, ?_, ?_⟩
              · have : (q - 1) * 2 + 1 < cur.size := by rw [hs]; omega
                exact ⟨cur[(q - 1) * 2 + 1], by simp [World.cell?, hh, this]⟩
              · simp [World.frozen?, hh]
          obtain ⟨v0, y0⟩ := y0
          have HO1 := Lib.hid hO1
          have HO2 := Lib.hid (own_set hO1 (j := (q - 1) * 2 + 1) (by omega) (.int .i64 (m - 1)))
          clear hO1
          go_wp2
          go_roundw
          case rel => exact ⟨k + 1, q, some ⟨g, 0, none⟩, cg, false, by go_num, by omega, rfl, rfl, by omega, Lib.hid (by rw [HS.out]; exact ⟨by simp [setHi, hst.out.1], rfl⟩), Lib.hid (by rw [HS.out, HRW.out]; exact HO2.out), hB1.setCell (p := ⟨g, _, none⟩) hgb _⟩
          case measure => (simp [intOf]) <;> omega
        | false =>
          have HS : Hid (wof f (M.take (k + 1)) = wof f (M.take k)) := Lib.hid (by rw [hstep, wst, if_neg (by rw [hp.out]; exact Bool.false_ne_true), if_neg (by rw [hst.out.2]; exact Bool.false_ne_true)])
          clear hstep
          go_wp2_with fail
          refine HCL.out.mono ?_
          rintro e x1 ⟨rfl, hb1⟩
          have hB1 : Below w.heap.size w x1 := hB.trans (hb1.mono hB.size)
          have HO1 := Lib.hid (own_below HO.out hb1 (Nat.le_refl _))
          clear hb1
          go_wp2
          go_roundw
          case rel => exact ⟨k + 1, q, G, cg, false, by go_num, by omega, rfl, rfl, by omega, Lib.hid (by rw [HS.out]; exact hst.out), Lib.hid (by rw [HS.out]; exact HO1.out), hB1⟩
          case measure => (simp [intOf]) <;> omega
    · have hkk : k = n := by omega
      have hT : M.take k = M := by rw [hkk, hn.out, List.take_length]
      have hO := HO.out
      have hs2 := hst.out.1
      rw [hT] at hO hs2
      have hown2 : wr.ownsRow w.heap.size 26 2 (.slice G q cg) (wof f M).1.length (rowsV rgV (wof f M).1) := by rw [hs2]; exact hO
      obtain ⟨G5, cg5, hv5, hS5, _, hn5, _, _⟩ := SlRows_own (f := rgV) (n := 2) (fun _ => rfl) hown2
      rw [hs2] at hv5
      injection hv5 with e1 e2 e3
      subst e1 e3
      have HS5 := Lib.hid hS5
      have HN5 := Lib.hid hn5
      have HQ := Lib.hid hs2
      have i1 : ¬ (60 : Int) < (q : Int) := by omega
      clear hT hO hs2 hown2 hS5 hn5 e2 hkk
      go_wp2
      go_ret2
      refine ⟨G, cg, ?_, HS5.out, HN5.out, hB⟩
      rw [HQ.out]
      rfl
end Go.Proofs.YtojaompfffpofaaGreat
