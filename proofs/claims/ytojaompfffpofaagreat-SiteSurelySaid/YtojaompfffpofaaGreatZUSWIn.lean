import Derived.Test.YtojaompfffpofaaGreatSWof
import Derived.Outline
import Derived.Test.YtojaompfffpofaaGreatSUniq
namespace Go.Proofs.YtojaompfffpofaaGreat
open Go.ChangeShapes Go.WideShapes Go.ChangeAt Go.RowKit
set_option linter.unusedVariables false
set_option linter.unusedSimpArgs false
attribute [local go_sem ↓] Go.wp_at_zero Go.wp_at_succ
/-- What windowsOf returns: the windows, or the error of too many. -/
def WofQ (L : List Rg) (w : World) (e : Ending) (w' : World) : Prop := (L.length ≤ 60 ∧ WofP L w e w') ∨ (60 < L.length ∧ e = .returned (.tuple #[.slice none 0 0, .int .i64 8]) ∧ Below w.heap.size w w')
set_option maxRecDepth 100000 in
set_option maxHeartbeats 4000000 in
theorem windowsOfI_is (f : Int → Bool) (M : List Int) (A : Option Addr) (cap n f0 ba : Nat) (w : World) (hn : Hid (n = M.length)) (hl : n ≤ 4000) (hM : ∀ x ∈ M, -1000000 ≤ x ∧ x ≤ 2000000)
    (HR : Hid (∀ w' : World, Below w.heap.size w w' → SlRows intV 1 w' A M))
    (HC : Hid (∀ (m : Int) (w' : World), m ∈ M → Below w.heap.size w w' → Calls Tryz.prog 110 #[.int .i64 m, .pointer (some ⟨f0, 0, none⟩), .pointer (some ⟨ba, 0, none⟩)] w' fun e w'' => e = .returned (.bool (f m)) ∧ Below w'.heap.size w' w'')) :
    Calls Tryz.prog 109 #[.slice A n cap, .func (.func 110) #[] #[.pointer (some ⟨f0, 0, none⟩), .pointer (some ⟨ba, 0, none⟩)]] w (WofQ (wof f M).1 w) := by
  have HMM := Lib.hid hM
  obtain ⟨i0, hi, hz0, hz1, hz2⟩ := info_partsS infoRg
  have HI := Lib.hid hi
  have HZ0 := Lib.hid hz0
  have HZ1 := Lib.hid hz1
  have HZ2 := Lib.hid hz2
  clear hi hz0 hz1 hz2 hM
  go_enter Tryz.func109, Tryz.ntmps109
  go_wp2
  go_loopw [6, 7, 13] (fun l o i wr => ∃ (k q : Nat) (G : Option Addr) (cg : Nat) (b : Bool), i = .int .i64 k ∧ k ≤ n ∧ l = .slice G q cg ∧ o = .bool b ∧ q ≤ k ∧ Hid ((wof f (M.take k)).1.length = q ∧ (wof f (M.take k)).2 = b) ∧ Hid (wr.ownsRow w.heap.size 26 2 (.slice G q cg) q (rowsV rgV (wof f (M.take k)).1)) ∧ Below w.heap.size w wr) (fun _ _ i _ => n - (intOf i).toNat)
  case atStart => exact ⟨0, 0, none, 0, false, rfl, by omega, rfl, rfl, by omega, Lib.hid ⟨rfl, rfl⟩, Lib.hid ⟨rfl, .inl ⟨rfl, rfl⟩⟩, (by (repeat (first | (with_reducible refine Below.drew ?_) | (with_reducible refine below_drewN ?_ _) | (with_reducible refine Below.alloc ?_ (by first | omega | (simp; done) | (simp; omega) | (simp at *; omega)) _) | (with_reducible refine Below.setCell ?_ (by first | omega | (simp; done) | (simp; omega) | (simp at *; omega)) _) | (with_reducible exact Below.refl _ _) | (with_reducible assumption) | (with_reducible refine Below.trans ?_ (Below.mono (by assumption) (by first | omega | (simp; done) | (simp; omega) | (simp at *; omega)))))))⟩
  case round =>
    obtain ⟨k, q, G, cg, b, rfl, hk, rfl, rfl, hqk, hst, HO, hB⟩ := hrel
    have hsz := hB.size
    by_cases hkn : k < n
    · have hkl : k < M.length := by have := hn.out; omega
      have kn : (k : Int) < (n : Int) := by omega
      rcases HR.out _ hB with h0 | ⟨bl, off, rfl, hlt, hRa⟩
      · rw [h0] at hkl; simp at hkl
      have c0 := hRa k hkl 0 (by omega)
      rw [show (intV M[k])[0]? = some (.int .i64 M[k]) from rfl, Nat.add_zero, Nat.mul_one] at c0
      obtain ⟨mb0, mb1⟩ := HMM.out _ (List.getElem_mem hkl)
      have htk : M.take (k + 1) = M.take k ++ [M[k]] := List.take_succ_eq_append_getElem hkl
      obtain ⟨m, hm⟩ : ∃ m, Hid (M[k] = m) := ⟨_, Lib.hid rfl⟩
      rw [hm.out] at c0 htk mb0 mb1
      have hstep : wof f (M.take (k + 1)) = wst f (wof f (M.take k)) m := by rw [htk, wof_snoc]
      obtain ⟨p, hp⟩ : ∃ p, Hid (f m = p) := ⟨_, Lib.hid rfl⟩
      have hmem : m ∈ M := by rw [← hm.out]; exact List.getElem_mem hkl
      have hcall := HC.out m wr hmem hB
      rw [hp.out] at hcall
      have HCL := Lib.hid hcall
      have w1 : IntKind.i64.wrap (m - 1) = m - 1 := IntWalk.i64_in _ (by omega)
      clear hcall htk hRa hmem
      cases p with
      | true =>
        cases b with
        | true =>
          have HS : Hid (wof f (M.take (k + 1)) = wof f (M.take k)) := Lib.hid (by rw [hstep, wst, if_pos hp.out, if_pos hst.out.2])
          clear hstep
          go_wp2_with fail
          refine HCL.out.mono ?_
          rintro e x1 ⟨rfl, hb1⟩
          have hB1 : Below w.heap.size w x1 := hB.trans (hb1.mono hB.size)
          have HO1 := Lib.hid (own_below HO.out hb1 (Nat.le_refl _))
          clear hb1
          go_wp2
          go_roundw
          case rel => exact ⟨k + 1, q, G, cg, true, by go_num, by omega, rfl, rfl, by omega, Lib.hid (by rw [HS.out]; exact hst.out), Lib.hid (by rw [HS.out]; exact HO1.out), hB1⟩
          case measure => (simp [intOf]) <;> omega
        | false =>
          have HS : Hid (wof f (M.take (k + 1)) = ((wof f (M.take k)).1 ++ [(⟨m, 0⟩ : Rg)], true)) := Lib.hid (by rw [hstep, wst, if_pos hp.out, if_neg (by rw [hst.out.2]; exact Bool.false_ne_true)])
          have HRW : Hid (rowsV rgV ((wof f (M.take k)).1 ++ [(⟨m, 0⟩ : Rg)]) = rowsV rgV (wof f (M.take k)).1 ++ [.int .i64 m, .int .i64 0]) := Lib.hid (by rw [rowsV_app]; rfl)
          clear hstep
          go_wp2_with fail
          refine HCL.out.mono ?_
          rintro e x1 ⟨rfl, hb1⟩
          have hB1 : Below w.heap.size w x1 := hB.trans (hb1.mono hB.size)
          have HO1 := Lib.hid (own_below HO.out hb1 (Nat.le_refl _))
          have s1 := hB1.size
          clear hb1
          go_wp2_with (at_builtin; refine wpList_append_own_at _ rfl _ _ 32 rfl w.heap.size 26 i0 (.agg #[.int .i64 0, .int .i64 0]) 2 16 Tryz.underlying32 HI.out HZ0.out HZ1.out HZ2.out rfl (by decide) _ _ _ rfl (own_below HO1.out (by exact (by (repeat (first | (with_reducible refine Below.drew ?_) | (with_reducible refine below_drewN ?_ _) | (with_reducible refine Below.alloc ?_ (by first | omega | (simp; done) | (simp; omega) | (simp at *; omega)) _) | (with_reducible refine Below.setCell ?_ (by first | omega | (simp; done) | (simp; omega) | (simp at *; omega)) _) | (with_reducible exact Below.refl _ _) | (with_reducible assumption) | (with_reducible refine Below.trans ?_ (Below.mono (by assumption) (by first | omega | (simp; done) | (simp; omega) | (simp at *; omega)))))))) (Nat.le_refl _)) ⟨x1.heap.size, 0, none⟩ 1 1 [.int .i64 m, .int .i64 0] rfl rfl ?a0 ?a1 ?a2 ?a3 ?a4 ?_)
          case a0 =>
            intro j v hj
            match j, hj with
            | 0, hj => simp at hj; subst hj; simp [Addr.add, go_sem]
            | 1, hj => simp at hj; subst hj; simp [Addr.add, go_sem]
          case a1 => intro v hv; simp at hv; rcases hv with rfl | rfl <;> rfl
          case a2 => unfold maxLen; omega
          case a3 => omega
          case a4 => simp; omega
          intro v' x5 hown hgrow hnn hblk
          have hB5 : Below w.heap.size w x5 := Below.grown (by exact (by (repeat (first | (with_reducible refine Below.drew ?_) | (with_reducible refine below_drewN ?_ _) | (with_reducible refine Below.alloc ?_ (by first | omega | (simp; done) | (simp; omega) | (simp at *; omega)) _) | (with_reducible refine Below.setCell ?_ (by first | omega | (simp; done) | (simp; omega) | (simp at *; omega)) _) | (with_reducible exact Below.refl _ _) | (with_reducible assumption) | (with_reducible refine Below.trans ?_ (Below.mono (by assumption) (by first | omega | (simp; done) | (simp; omega) | (simp at *; omega)))))))) hgrow (by simp; omega) (fun r hr => (own_block HO1.out r hr).1)
          have hown2 : x5.ownsRow w.heap.size 26 2 v' ((wof f (M.take k)).1 ++ [(⟨m, 0⟩ : Rg)]).length (rowsV rgV ((wof f (M.take k)).1 ++ [(⟨m, 0⟩ : Rg)])) := by rw [HRW.out, List.length_append, hst.out.1]; exact hown
          obtain ⟨G5, cg5, hv5, _, _, _, _, _⟩ := SlRows_own (f := rgV) (n := 2) (fun _ => rfl) hown2
          rw [List.length_append, hst.out.1] at hv5
          simp only [List.length_cons, List.length_nil, Nat.zero_add] at hv5
          subst hv5
          have HO5 : Hid (x5.ownsRow w.heap.size 26 2 (.slice G5 (q + 1) cg5) (q + 1) (rowsV rgV ((wof f (M.take k)).1 ++ [(⟨m, 0⟩ : Rg)]))) := Lib.hid (by rw [List.length_append, hst.out.1] at hown2; exact hown2)
          clear hown hown2 hgrow hnn hblk
          go_wp2
          go_roundw
          case rel => exact ⟨k + 1, q + 1, G5, cg5, true, by go_num, by omega, rfl, rfl, by omega, Lib.hid (by rw [HS.out]; exact ⟨by simp [hst.out.1], rfl⟩), Lib.hid (by rw [HS.out]; exact HO5.out), hB5⟩
          case measure => (simp [intOf]) <;> omega
      | false =>
        cases b with
        | true =>
          have hne := wof_ne f (M.take k) hst.out.2
          have HS : Hid (wof f (M.take (k + 1)) = (setHi (wof f (M.take k)).1 (m - 1), false)) := Lib.hid (by rw [hstep, wst, if_neg (by rw [hp.out]; exact Bool.false_ne_true), if_pos hst.out.2])
          have HRW := Lib.hid (rowsV_setHi (wof f (M.take k)).1 (m - 1) hne)
          rw [hst.out.1] at HRW
          have q1 : 1 ≤ q := by rw [← hst.out.1]; exact List.length_pos_iff.2 hne
          have qi : (1 : Int) ≤ (q : Int) := by omega
          have w2 : IntKind.i64.wrap ((q : Int) - 1) = (q : Int) - 1 := IntWalk.i64_in _ (by omega)
          have j2 : (0 : Int) ≤ (q : Int) - 1 := by omega
          have j3 : ((q : Int) - 1).toNat = q - 1 := by omega
          have j4 : (q : Int) - 1 < (q : Int) := by omega
          clear hstep hne
          go_wp2_with fail
          refine HCL.out.mono ?_
          rintro e x1 ⟨rfl, hb1⟩
          have hB1 : Below w.heap.size w x1 := hB.trans (hb1.mono hB.size)
          have hO1 := own_below HO.out hb1 (Nat.le_refl _)
          clear hb1
          obtain ⟨g, rfl, hgb, y0, yf⟩ : ∃ g, G = some ⟨g, 0, none⟩ ∧ w.heap.size ≤ g ∧ (∃ v, x1.cell? ⟨g, (q - 1) * 2 + 1, none⟩ = some v) ∧ x1.frozen? ⟨g, (q - 1) * 2 + 1, none⟩ = false := by
            rcases hO1.2 with ⟨hv, h0⟩ | ⟨g, cap', cur, hv, hg, hh, hle, hcap, hs, ht⟩
            · omega
            · injection hv with e1 e2 e3
              refine ⟨g, e1, hg, ?_, ?_⟩
              · have : (q - 1) * 2 + 1 < cur.size := by rw [hs]; omega
                exact ⟨cur[(q - 1) * 2 + 1], by simp [World.cell?, hh, this]⟩
              · simp [World.frozen?, hh]
          obtain ⟨v0, y0⟩ := y0
          have HO1 := Lib.hid hO1
          have HO2 := Lib.hid (own_set hO1 (j := (q - 1) * 2 + 1) (by omega) (.int .i64 (m - 1)))
          clear hO1
          go_wp2
          go_roundw
          case rel => exact ⟨k + 1, q, some ⟨g, 0, none⟩, cg, false, by go_num, by omega, rfl, rfl, by omega, Lib.hid (by rw [HS.out]; exact ⟨by simp [setHi, hst.out.1], rfl⟩), Lib.hid (by rw [HS.out, HRW.out]; exact HO2.out), hB1.setCell (p := ⟨g, _, none⟩) hgb _⟩
          case measure => (simp [intOf]) <;> omega
        | false =>
          have HS : Hid (wof f (M.take (k + 1)) = wof f (M.take k)) := Lib.hid (by rw [hstep, wst, if_neg (by rw [hp.out]; exact Bool.false_ne_true), if_neg (by rw [hst.out.2]; exact Bool.false_ne_true)])
          clear hstep
          go_wp2_with fail
          refine HCL.out.mono ?_
          rintro e x1 ⟨rfl, hb1⟩
          have hB1 : Below w.heap.size w x1 := hB.trans (hb1.mono hB.size)
          have HO1 := Lib.hid (own_below HO.out hb1 (Nat.le_refl _))
          clear hb1
          go_wp2
          go_roundw
          case rel => exact ⟨k + 1, q, G, cg, false, by go_num, by omega, rfl, rfl, by omega, Lib.hid (by rw [HS.out]; exact hst.out), Lib.hid (by rw [HS.out]; exact HO1.out), hB1⟩
          case measure => (simp [intOf]) <;> omega
    · have hkk : k = n := by omega
      have hT : M.take k = M := by rw [hkk, hn.out, List.take_length]
      have hO := HO.out
      have hs2 := hst.out.1
      rw [hT] at hO hs2
      have hown2 : wr.ownsRow w.heap.size 26 2 (.slice G q cg) (wof f M).1.length (rowsV rgV (wof f M).1) := by rw [hs2]; exact hO
      obtain ⟨G5, cg5, hv5, hS5, _, hn5, _, _⟩ := SlRows_own (f := rgV) (n := 2) (fun _ => rfl) hown2
      rw [hs2] at hv5
      injection hv5 with e1 e2 e3
      subst e1 e3
      have HS5 := Lib.hid hS5
      have HN5 := Lib.hid hn5
      have HQ := Lib.hid hs2
      clear hT hO hs2 hown2 hS5 hn5 e2 hkk
      by_cases hq : q ≤ 60
      · have i1 : ¬ (60 : Int) < (q : Int) := by omega
        go_wp2
        go_ret2
        refine .inl ⟨by rw [HQ.out]; exact hq, G, cg, ?_, HS5.out, HN5.out, hB⟩
        rw [HQ.out]
        rfl
      · have i1 : (60 : Int) < (q : Int) := by omega
        go_wp2
        go_ret2
        exact .inr ⟨by rw [HQ.out]; omega, rfl, hB⟩
end Go.Proofs.YtojaompfffpofaaGreat

namespace Go.Proofs.YtojaompfffpofaaGreat
open Go.ChangeShapes Go.WideShapes Go.ChangeAt Go.RowKit
set_option linter.unusedVariables false
set_option linter.unusedSimpArgs false
attribute [local go_sem ↓] Go.wp_at_zero Go.wp_at_succ
structure WiS (a b : Int) (F : Value) (w X : World) : Prop where
  c0 : X.cell? ⟨w.heap.size, 0, none⟩ = some (.int .i64 a)
  c1 : X.cell? ⟨w.heap.size, 1, none⟩ = some (.int .i64 b)
  c2 : X.cell? ⟨w.heap.size + 1, 0, none⟩ = some F
  be : Below w.heap.size w X
  lt : w.heap.size + 1 < X.heap.size
theorem WiS.below {a b : Int} {F : Value} {w X X' : World} (h : WiS a b F w X) (hb : Below X.heap.size X X') : WiS a b F w X' := by
  have z := hb.size
  have l := h.lt
  have l0 : w.heap.size < X.heap.size := by omega
  exact ⟨(hb.cell (p := ⟨w.heap.size, 0, none⟩) l0).trans h.c0, (hb.cell (p := ⟨w.heap.size, 1, none⟩) l0).trans h.c1, (hb.cell (p := ⟨w.heap.size + 1, 0, none⟩) l).trans h.c2, h.be.trans (hb.mono h.be.size), by omega⟩
theorem own_emptyI {V : World} {base : Nat} {e : TypeId} : V.ownsRow base e 1 (.slice none 0 0) 0 [] := ⟨rfl, .inl ⟨rfl, rfl⟩⟩
set_option maxRecDepth 100000 in
set_option maxHeartbeats 1000000 in
theorem wiS1_is (m b : Int) (r p : Bool) (f0 ba q1 q2 q3 : Nat) (w : World) (hb : w.cell? ⟨f0, 1, none⟩ = some (.int .i64 b)) (hc : w.cell? ⟨ba, 0, none⟩ = some (.func (.func 70) #[] #[.pointer (some ⟨q1, 0, none⟩), .pointer (some ⟨q2, 0, none⟩), .pointer (some ⟨q3, 0, none⟩)])) (hr : Hid ((decide (m ≤ b) && p) = r))
    (HC : Hid (m ≤ b → ∀ w' : World, Below w.heap.size w w' → Calls Tryz.prog 70 #[.int .i64 m, .pointer (some ⟨q1, 0, none⟩), .pointer (some ⟨q2, 0, none⟩), .pointer (some ⟨q3, 0, none⟩)] w' fun e w'' => e = .returned (.bool p) ∧ Below w'.heap.size w' w'')) :
    Calls Tryz.prog 110 #[.int .i64 m, .pointer (some ⟨f0, 0, none⟩), .pointer (some ⟨ba, 0, none⟩)] w fun e w' => e = .returned (.bool r) ∧ Below w.heap.size w w' := by
  by_cases h : m ≤ b
  · have g1 : decide (m ≤ b) = true := by simpa using h
    have hr2 : Hid (p = r) := Lib.hid (by rw [← hr.out, g1]; rfl)
    have hcall := HC.out h
    have HCL := Lib.hid hcall
    clear hr HC hcall
    go_enter Tryz.func110, Tryz.ntmps110
    go_wp2_with fail
    refine (HCL.out _ (by (repeat (first | (with_reducible refine Below.drew ?_) | (with_reducible refine below_drewN ?_ _) | (with_reducible refine Below.alloc ?_ (by first | omega | (simp; done) | (simp; omega) | (simp at *; omega)) _) | (with_reducible refine Below.setCell ?_ (by first | omega | (simp; done) | (simp; omega) | (simp at *; omega)) _) | (with_reducible exact Below.refl _ _) | (with_reducible assumption) | (with_reducible refine Below.trans ?_ (Below.mono (by assumption) (by first | omega | (simp; done) | (simp; omega) | (simp at *; omega)))))))).mono ?_
    rintro e w1 ⟨rfl, hb1⟩
    have hB1 : Below w.heap.size w w1 := (by (repeat (first | (with_reducible refine Below.drew ?_) | (with_reducible refine below_drewN ?_ _) | (with_reducible refine Below.alloc ?_ (by first | omega | (simp; done) | (simp; omega) | (simp at *; omega)) _) | (with_reducible refine Below.setCell ?_ (by first | omega | (simp; done) | (simp; omega) | (simp at *; omega)) _) | (with_reducible exact Below.refl _ _) | (with_reducible assumption) | (with_reducible refine Below.trans ?_ (Below.mono (by assumption) (by first | omega | (simp; done) | (simp; omega) | (simp at *; omega)))))))
    clear hb1
    go_wp2
    go_ret
    exact ⟨by rw [hr2.out]; rfl, hB1⟩
  · have g1 : decide (m ≤ b) = false := by simpa using h
    have hr2 : Hid (false = r) := Lib.hid (by rw [← hr.out, g1]; rfl)
    clear hr HC
    go_enter Tryz.func110, Tryz.ntmps110
    go_wp2
    go_ret
    exact ⟨by rw [hr2.out]; rfl, (by (repeat (first | (with_reducible refine Below.drew ?_) | (with_reducible refine below_drewN ?_ _) | (with_reducible refine Below.alloc ?_ (by first | omega | (simp; done) | (simp; omega) | (simp at *; omega)) _) | (with_reducible refine Below.setCell ?_ (by first | omega | (simp; done) | (simp; omega) | (simp at *; omega)) _) | (with_reducible exact Below.refl _ _) | (with_reducible assumption) | (with_reducible refine Below.trans ?_ (Below.mono (by assumption) (by first | omega | (simp; done) | (simp; omega) | (simp at *; omega)))))))⟩
set_option maxRecDepth 100000 in
set_option maxHeartbeats 4000000 in
theorem windowsInS_is (g : Int → Bool) (a b : Int) (n : Nat) (q1 q2 q3 : Nat) (w : World) (hn : Hid ((n : Int) = b - a + 1)) (a0 : 0 ≤ a) (ab : a ≤ b) (b1 : b ≤ 1000000) (hs : b - a < 3000)
    (HC : Hid (∀ (m : Int) (w' : World), a ≤ m → m ≤ b → Below w.heap.size w w' → Calls Tryz.prog 70 #[.int .i64 m, .pointer (some ⟨q1, 0, none⟩), .pointer (some ⟨q2, 0, none⟩), .pointer (some ⟨q3, 0, none⟩)] w' fun e w'' => e = .returned (.bool (g m)) ∧ Below w'.heap.size w' w'')) :
    Calls Tryz.prog 69 #[.agg #[.int .i64 a, .int .i64 b], .func (.func 70) #[] #[.pointer (some ⟨q1, 0, none⟩), .pointer (some ⟨q2, 0, none⟩), .pointer (some ⟨q3, 0, none⟩)]] w (WofQ (rwL a (fun k => g (a + (k : Int))) n) w) := by
  obtain ⟨i0, hi, hz0, hz1, hz2⟩ := info_partsS infoIn
  have HI := Lib.hid hi
  have HZ0 := Lib.hid hz0
  have HZ1 := Lib.hid hz1
  have HZ2 := Lib.hid hz2
  clear hi hz0 hz1 hz2
  have eb : IntKind.i64.wrap (b + 1) = b + 1 := IntWalk.i64_in _ (by omega)
  go_enter Tryz.func69, Tryz.ntmps69
  go_upto_region 1 with (fail)
  refine wp_world (WiS a b (.func (.func 70) #[] #[.pointer (some ⟨q1, 0, none⟩), .pointer (some ⟨q2, 0, none⟩), .pointer (some ⟨q3, 0, none⟩)]) w) ⟨by simp [go_sem, World.cell?_alloc_past], by simp [go_sem, World.cell?_alloc_past], by simp [go_sem, World.cell?_alloc_past], (by (repeat (first | (with_reducible refine Below.drew ?_) | (with_reducible refine below_drewN ?_ _) | (with_reducible refine Below.alloc ?_ (by first | omega | (simp; done) | (simp; omega) | (simp at *; omega)) _) | (with_reducible refine Below.setCell ?_ (by first | omega | (simp; done) | (simp; omega) | (simp at *; omega)) _) | (with_reducible exact Below.refl _ _) | (with_reducible assumption) | (with_reducible refine Below.trans ?_ (Below.mono (by assumption) (by first | omega | (simp; done) | (simp; omega) | (simp at *; omega))))))), by simp⟩ (fun u hu => ?_)
  have HU := Lib.hid hu
  have hu0 := hu.c0
  clear hu
  go_wp2
  go_loopw [6, 7] (fun l i wr => ∃ (k : Nat) (G : Option Addr) (cg : Nat), l = .slice G k cg ∧ i = .int .i64 (a + (k : Int)) ∧ (k : Int) ≤ b - a + 2 ∧ Hid (wr.ownsRow u.heap.size 3 1 (.slice G k cg) k (rowsV intV (mins a k))) ∧ Below u.heap.size u wr) (fun _ i _ => (b + 2 - intOf i).toNat)
  case atStart => exact ⟨0, none, 0, rfl, by simp, by omega, Lib.hid own_emptyI, (by (repeat (first | (with_reducible refine Below.drew ?_) | (with_reducible refine below_drewN ?_ _) | (with_reducible refine Below.alloc ?_ (by first | omega | (simp; done) | (simp; omega) | (simp at *; omega)) _) | (with_reducible refine Below.setCell ?_ (by first | omega | (simp; done) | (simp; omega) | (simp at *; omega)) _) | (with_reducible exact Below.refl _ _) | (with_reducible assumption) | (with_reducible refine Below.trans ?_ (Below.mono (by assumption) (by first | omega | (simp; done) | (simp; omega) | (simp at *; omega)))))))⟩
  case round =>
    obtain ⟨k, G, cg, rfl, rfl, hk, HO, hB⟩ := hrel
    have hsz := hB.size
    have c1 := (HU.out.below hB).c1
    have c2 := (HU.out.below hB).c2
    have hlt := HU.out.lt
    have n1 : w.heap.size < wr.heap.size := by omega
    have n2 : w.heap.size + 1 < wr.heap.size := by omega
    by_cases hkb : a + (k : Int) ≤ b + 1
    · have ek : IntKind.i64.wrap (a + (k : Int) + 1) = a + (k : Int) + 1 := IntWalk.i64_in _ (by omega)
      have HRW : Hid (rowsV intV (mins a (k + 1)) = rowsV intV (mins a k) ++ [.int .i64 (a + (k : Int))]) := Lib.hid (by rw [mins_succ, rowsV_app]; rfl)
      have HML : Hid ((mins a (k + 1)).length = k + 1) := Lib.hid (mins_len a (k + 1))
      go_wp2_with (at_builtin; refine wpList_append_own_at _ rfl _ _ 81 rfl u.heap.size 3 i0 (.int .i64 0) 1 8 Tryz.underlying81 HI.out HZ0.out HZ1.out HZ2.out rfl (by decide) _ _ _ rfl (own_below HO.out (by exact (by (repeat (first | (with_reducible refine Below.drew ?_) | (with_reducible refine below_drewN ?_ _) | (with_reducible refine Below.alloc ?_ (by first | omega | (simp; done) | (simp; omega) | (simp at *; omega)) _) | (with_reducible refine Below.setCell ?_ (by first | omega | (simp; done) | (simp; omega) | (simp at *; omega)) _) | (with_reducible exact Below.refl _ _) | (with_reducible assumption) | (with_reducible refine Below.trans ?_ (Below.mono (by assumption) (by first | omega | (simp; done) | (simp; omega) | (simp at *; omega)))))))) (Nat.le_refl _)) ⟨wr.heap.size, 0, none⟩ 1 1 [.int .i64 (a + (k : Int))] rfl rfl ?a0 ?a1 ?a2 ?a3 ?a4 ?_)
      case a0 =>
        intro j v hj
        match j, hj with
        | 0, hj => simp at hj; subst hj; simp [Addr.add, go_sem]
      case a1 => intro v hv; simp at hv; subst hv; rfl
      case a2 => unfold maxLen; omega
      case a3 => omega
      case a4 => simp; omega
      intro v' x5 hown hgrow hnn hblk
      have hB5 : Below u.heap.size u x5 := Below.grown (by exact (by (repeat (first | (with_reducible refine Below.drew ?_) | (with_reducible refine below_drewN ?_ _) | (with_reducible refine Below.alloc ?_ (by first | omega | (simp; done) | (simp; omega) | (simp at *; omega)) _) | (with_reducible refine Below.setCell ?_ (by first | omega | (simp; done) | (simp; omega) | (simp at *; omega)) _) | (with_reducible exact Below.refl _ _) | (with_reducible assumption) | (with_reducible refine Below.trans ?_ (Below.mono (by assumption) (by first | omega | (simp; done) | (simp; omega) | (simp at *; omega)))))))) hgrow (by simp; omega) (fun r hr => (own_block HO.out r hr).1)
      have hown2 : x5.ownsRow u.heap.size 3 1 v' (mins a (k + 1)).length (rowsV intV (mins a (k + 1))) := by rw [HRW.out, HML.out]; exact hown
      obtain ⟨G5, cg5, hv5, _, _, _, _, _⟩ := SlRows_own (f := intV) (n := 1) (fun _ => rfl) hown2
      rw [HML.out] at hv5
      subst hv5
      have HO5 : Hid (x5.ownsRow u.heap.size 3 1 (.slice G5 (k + 1) cg5) (k + 1) (rowsV intV (mins a (k + 1)))) := Lib.hid (by rw [HML.out] at hown2; exact hown2)
      clear hown hown2 hgrow hnn hblk
      go_wp2
      go_roundw
      case rel => exact ⟨k + 1, G5, cg5, rfl, by first | rfl | (simp; omega) | (congr 1; omega), by omega, HO5, hB5⟩
      case measure => (simp [intOf]) <;> omega
    · have hkn : k = n + 1 := by have := hn.out; omega
      have hO := HO.out
      rw [hkn] at hO
      have hown2 : wr.ownsRow u.heap.size 3 1 (.slice G (n + 1) cg) (mins a (n + 1)).length (rowsV intV (mins a (n + 1))) := by rw [mins_len]; exact hO
      obtain ⟨G5, cg5, hv5, hS5, _, hn5, _, _⟩ := SlRows_own (f := intV) (n := 1) (fun _ => rfl) hown2
      injection hv5 with e1 e2 e3
      subst e1 e3
      have HS5 := Lib.hid hS5
      have hBw : Below w.heap.size w wr := HU.out.be.trans (hB.mono HU.out.be.size)
      have HBW := Lib.hid hBw
      have hn4 : n + 1 ≤ 4000 := by have := hn.out; omega
      have c0 : wr.cell? ⟨w.heap.size, 1, none⟩ = some (.int .i64 b) := c1
      clear hO hown2 hS5 hn5 e2
      subst hkn
      go_wp2_with fail
      refine (windowsOfI_is (spnF b g) (mins a (n + 1)) G cg (n + 1) w.heap.size (w.heap.size + 1) _ (Lib.hid ?wa) hn4 ?wm (Lib.hid ?wb) (Lib.hid ?wd)).mono ?_
      case wa => rw [mins_len]
      case wm =>
        intro x hx
        have := mins_mem.1 hx
        have := hn.out
        omega
      case wb => intro w' h; exact HS5.out.below h
      case wd =>
        intro m w' hm h
        have hm2 := mins_mem.1 hm
        have z := h.size
        exact wiS1_is m b _ (g m) w.heap.size (w.heap.size + 1) q1 q2 q3 w' ((h.cell (p := ⟨_, 1, none⟩) n1).trans c1) ((h.cell (p := ⟨_, 0, none⟩) n2).trans c2) (Lib.hid rfl) (Lib.hid fun hmb w2 h2 => HC.out m w2 (by omega) hmb (HBW.out.trans ((h.mono HBW.out.size).trans (h2.mono (Nat.le_trans HBW.out.size z)))))
      rintro e x7 hQ
      have he : (wof (spnF b g) (mins a (n + 1))).1 = rwL a (fun k => g (a + (k : Int))) n := wof_span a b g n hn.out
      rw [he] at hQ
      rcases hQ with ⟨hq, G7, cg7, rfl, hS7, hN7, hb7⟩ | ⟨hq, rfl, hb7⟩
      · have HS7 := Lib.hid hS7
        have HN7 := Lib.hid hN7
        have HQ7 := Lib.hid hq
        have hB7 : Below w.heap.size w x7 := HBW.out.trans (hb7.mono HBW.out.size)
        clear hS7 hN7 hb7 hq he
        go_wp2
        go_ret2
        exact .inl ⟨HQ7.out, G7, cg7, rfl, HS7.out, HN7.out, hB7⟩
      · have HQ7 := Lib.hid hq
        have hB7 : Below w.heap.size w x7 := HBW.out.trans (hb7.mono HBW.out.size)
        clear hb7 hq he
        go_wp2
        go_ret2
        exact .inr ⟨HQ7.out, rfl, hB7⟩
set_option maxRecDepth 100000 in
set_option maxHeartbeats 1000000 in
theorem wiC1_is (m b : Int) (r p : Bool) (f0 ba q1 q2 : Nat) (w : World) (hb : w.cell? ⟨f0, 1, none⟩ = some (.int .i64 b)) (hc : w.cell? ⟨ba, 0, none⟩ = some (.func (.func 86) #[] #[.pointer (some ⟨q1, 0, none⟩), .pointer (some ⟨q2, 0, none⟩)])) (hr : Hid ((decide (m ≤ b) && p) = r))
    (HC : Hid (m ≤ b → ∀ w' : World, Below w.heap.size w w' → Calls Tryz.prog 86 #[.int .i64 m, .pointer (some ⟨q1, 0, none⟩), .pointer (some ⟨q2, 0, none⟩)] w' fun e w'' => e = .returned (.bool p) ∧ Below w'.heap.size w' w'')) :
    Calls Tryz.prog 110 #[.int .i64 m, .pointer (some ⟨f0, 0, none⟩), .pointer (some ⟨ba, 0, none⟩)] w fun e w' => e = .returned (.bool r) ∧ Below w.heap.size w w' := by
  by_cases h : m ≤ b
  · have g1 : decide (m ≤ b) = true := by simpa using h
    have hr2 : Hid (p = r) := Lib.hid (by rw [← hr.out, g1]; rfl)
    have hcall := HC.out h
    have HCL := Lib.hid hcall
    clear hr HC hcall
    go_enter Tryz.func110, Tryz.ntmps110
    go_wp2_with fail
    refine (HCL.out _ (by (repeat (first | (with_reducible refine Below.drew ?_) | (with_reducible refine below_drewN ?_ _) | (with_reducible refine Below.alloc ?_ (by first | omega | (simp; done) | (simp; omega) | (simp at *; omega)) _) | (with_reducible refine Below.setCell ?_ (by first | omega | (simp; done) | (simp; omega) | (simp at *; omega)) _) | (with_reducible exact Below.refl _ _) | (with_reducible assumption) | (with_reducible refine Below.trans ?_ (Below.mono (by assumption) (by first | omega | (simp; done) | (simp; omega) | (simp at *; omega)))))))).mono ?_
    rintro e w1 ⟨rfl, hb1⟩
    have hB1 : Below w.heap.size w w1 := (by (repeat (first | (with_reducible refine Below.drew ?_) | (with_reducible refine below_drewN ?_ _) | (with_reducible refine Below.alloc ?_ (by first | omega | (simp; done) | (simp; omega) | (simp at *; omega)) _) | (with_reducible refine Below.setCell ?_ (by first | omega | (simp; done) | (simp; omega) | (simp at *; omega)) _) | (with_reducible exact Below.refl _ _) | (with_reducible assumption) | (with_reducible refine Below.trans ?_ (Below.mono (by assumption) (by first | omega | (simp; done) | (simp; omega) | (simp at *; omega)))))))
    clear hb1
    go_wp2
    go_ret
    exact ⟨by rw [hr2.out]; rfl, hB1⟩
  · have g1 : decide (m ≤ b) = false := by simpa using h
    have hr2 : Hid (false = r) := Lib.hid (by rw [← hr.out, g1]; rfl)
    clear hr HC
    go_enter Tryz.func110, Tryz.ntmps110
    go_wp2
    go_ret
    exact ⟨by rw [hr2.out]; rfl, (by (repeat (first | (with_reducible refine Below.drew ?_) | (with_reducible refine below_drewN ?_ _) | (with_reducible refine Below.alloc ?_ (by first | omega | (simp; done) | (simp; omega) | (simp at *; omega)) _) | (with_reducible refine Below.setCell ?_ (by first | omega | (simp; done) | (simp; omega) | (simp at *; omega)) _) | (with_reducible exact Below.refl _ _) | (with_reducible assumption) | (with_reducible refine Below.trans ?_ (Below.mono (by assumption) (by first | omega | (simp; done) | (simp; omega) | (simp at *; omega)))))))⟩
set_option maxRecDepth 100000 in
set_option maxHeartbeats 4000000 in
theorem windowsInC_is (g : Int → Bool) (a b : Int) (n : Nat) (q1 q2 : Nat) (w : World) (hn : Hid ((n : Int) = b - a + 1)) (a0 : 0 ≤ a) (ab : a ≤ b) (b1 : b ≤ 1000000) (hs : b - a < 3000)
    (HC : Hid (∀ (m : Int) (w' : World), a ≤ m → m ≤ b → Below w.heap.size w w' → Calls Tryz.prog 86 #[.int .i64 m, .pointer (some ⟨q1, 0, none⟩), .pointer (some ⟨q2, 0, none⟩)] w' fun e w'' => e = .returned (.bool (g m)) ∧ Below w'.heap.size w' w'')) :
    Calls Tryz.prog 69 #[.agg #[.int .i64 a, .int .i64 b], .func (.func 86) #[] #[.pointer (some ⟨q1, 0, none⟩), .pointer (some ⟨q2, 0, none⟩)]] w (WofQ (rwL a (fun k => g (a + (k : Int))) n) w) := by
  obtain ⟨i0, hi, hz0, hz1, hz2⟩ := info_partsS infoIn
  have HI := Lib.hid hi
  have HZ0 := Lib.hid hz0
  have HZ1 := Lib.hid hz1
  have HZ2 := Lib.hid hz2
  clear hi hz0 hz1 hz2
  have eb : IntKind.i64.wrap (b + 1) = b + 1 := IntWalk.i64_in _ (by omega)
  go_enter Tryz.func69, Tryz.ntmps69
  go_upto_region 1 with (fail)
  refine wp_world (WiS a b (.func (.func 86) #[] #[.pointer (some ⟨q1, 0, none⟩), .pointer (some ⟨q2, 0, none⟩)]) w) ⟨by simp [go_sem, World.cell?_alloc_past], by simp [go_sem, World.cell?_alloc_past], by simp [go_sem, World.cell?_alloc_past], (by (repeat (first | (with_reducible refine Below.drew ?_) | (with_reducible refine below_drewN ?_ _) | (with_reducible refine Below.alloc ?_ (by first | omega | (simp; done) | (simp; omega) | (simp at *; omega)) _) | (with_reducible refine Below.setCell ?_ (by first | omega | (simp; done) | (simp; omega) | (simp at *; omega)) _) | (with_reducible exact Below.refl _ _) | (with_reducible assumption) | (with_reducible refine Below.trans ?_ (Below.mono (by assumption) (by first | omega | (simp; done) | (simp; omega) | (simp at *; omega))))))), by simp⟩ (fun u hu => ?_)
  have HU := Lib.hid hu
  have hu0 := hu.c0
  clear hu
  go_wp2
  go_loopw [6, 7] (fun l i wr => ∃ (k : Nat) (G : Option Addr) (cg : Nat), l = .slice G k cg ∧ i = .int .i64 (a + (k : Int)) ∧ (k : Int) ≤ b - a + 2 ∧ Hid (wr.ownsRow u.heap.size 3 1 (.slice G k cg) k (rowsV intV (mins a k))) ∧ Below u.heap.size u wr) (fun _ i _ => (b + 2 - intOf i).toNat)
  case atStart => exact ⟨0, none, 0, rfl, by simp, by omega, Lib.hid own_emptyI, (by (repeat (first | (with_reducible refine Below.drew ?_) | (with_reducible refine below_drewN ?_ _) | (with_reducible refine Below.alloc ?_ (by first | omega | (simp; done) | (simp; omega) | (simp at *; omega)) _) | (with_reducible refine Below.setCell ?_ (by first | omega | (simp; done) | (simp; omega) | (simp at *; omega)) _) | (with_reducible exact Below.refl _ _) | (with_reducible assumption) | (with_reducible refine Below.trans ?_ (Below.mono (by assumption) (by first | omega | (simp; done) | (simp; omega) | (simp at *; omega)))))))⟩
  case round =>
    obtain ⟨k, G, cg, rfl, rfl, hk, HO, hB⟩ := hrel
    have hsz := hB.size
    have c1 := (HU.out.below hB).c1
    have c2 := (HU.out.below hB).c2
    have hlt := HU.out.lt
    have n1 : w.heap.size < wr.heap.size := by omega
    have n2 : w.heap.size + 1 < wr.heap.size := by omega
    by_cases hkb : a + (k : Int) ≤ b + 1
    · have ek : IntKind.i64.wrap (a + (k : Int) + 1) = a + (k : Int) + 1 := IntWalk.i64_in _ (by omega)
      have HRW : Hid (rowsV intV (mins a (k + 1)) = rowsV intV (mins a k) ++ [.int .i64 (a + (k : Int))]) := Lib.hid (by rw [mins_succ, rowsV_app]; rfl)
      have HML : Hid ((mins a (k + 1)).length = k + 1) := Lib.hid (mins_len a (k + 1))
      go_wp2_with (at_builtin; refine wpList_append_own_at _ rfl _ _ 81 rfl u.heap.size 3 i0 (.int .i64 0) 1 8 Tryz.underlying81 HI.out HZ0.out HZ1.out HZ2.out rfl (by decide) _ _ _ rfl (own_below HO.out (by exact (by (repeat (first | (with_reducible refine Below.drew ?_) | (with_reducible refine below_drewN ?_ _) | (with_reducible refine Below.alloc ?_ (by first | omega | (simp; done) | (simp; omega) | (simp at *; omega)) _) | (with_reducible refine Below.setCell ?_ (by first | omega | (simp; done) | (simp; omega) | (simp at *; omega)) _) | (with_reducible exact Below.refl _ _) | (with_reducible assumption) | (with_reducible refine Below.trans ?_ (Below.mono (by assumption) (by first | omega | (simp; done) | (simp; omega) | (simp at *; omega)))))))) (Nat.le_refl _)) ⟨wr.heap.size, 0, none⟩ 1 1 [.int .i64 (a + (k : Int))] rfl rfl ?a0 ?a1 ?a2 ?a3 ?a4 ?_)
      case a0 =>
        intro j v hj
        match j, hj with
        | 0, hj => simp at hj; subst hj; simp [Addr.add, go_sem]
      case a1 => intro v hv; simp at hv; subst hv; rfl
      case a2 => unfold maxLen; omega
      case a3 => omega
      case a4 => simp; omega
      intro v' x5 hown hgrow hnn hblk
      have hB5 : Below u.heap.size u x5 := Below.grown (by exact (by (repeat (first | (with_reducible refine Below.drew ?_) | (with_reducible refine below_drewN ?_ _) | (with_reducible refine Below.alloc ?_ (by first | omega | (simp; done) | (simp; omega) | (simp at *; omega)) _) | (with_reducible refine Below.setCell ?_ (by first | omega | (simp; done) | (simp; omega) | (simp at *; omega)) _) | (with_reducible exact Below.refl _ _) | (with_reducible assumption) | (with_reducible refine Below.trans ?_ (Below.mono (by assumption) (by first | omega | (simp; done) | (simp; omega) | (simp at *; omega)))))))) hgrow (by simp; omega) (fun r hr => (own_block HO.out r hr).1)
      have hown2 : x5.ownsRow u.heap.size 3 1 v' (mins a (k + 1)).length (rowsV intV (mins a (k + 1))) := by rw [HRW.out, HML.out]; exact hown
      obtain ⟨G5, cg5, hv5, _, _, _, _, _⟩ := SlRows_own (f := intV) (n := 1) (fun _ => rfl) hown2
      rw [HML.out] at hv5
      subst hv5
      have HO5 : Hid (x5.ownsRow u.heap.size 3 1 (.slice G5 (k + 1) cg5) (k + 1) (rowsV intV (mins a (k + 1)))) := Lib.hid (by rw [HML.out] at hown2; exact hown2)
      clear hown hown2 hgrow hnn hblk
      go_wp2
      go_roundw
      case rel => exact ⟨k + 1, G5, cg5, rfl, by first | rfl | (simp; omega) | (congr 1; omega), by omega, HO5, hB5⟩
      case measure => (simp [intOf]) <;> omega
    · have hkn : k = n + 1 := by have := hn.out; omega
      have hO := HO.out
      rw [hkn] at hO
      have hown2 : wr.ownsRow u.heap.size 3 1 (.slice G (n + 1) cg) (mins a (n + 1)).length (rowsV intV (mins a (n + 1))) := by rw [mins_len]; exact hO
      obtain ⟨G5, cg5, hv5, hS5, _, hn5, _, _⟩ := SlRows_own (f := intV) (n := 1) (fun _ => rfl) hown2
      injection hv5 with e1 e2 e3
      subst e1 e3
      have HS5 := Lib.hid hS5
      have hBw : Below w.heap.size w wr := HU.out.be.trans (hB.mono HU.out.be.size)
      have HBW := Lib.hid hBw
      have hn4 : n + 1 ≤ 4000 := by have := hn.out; omega
      have c0 : wr.cell? ⟨w.heap.size, 1, none⟩ = some (.int .i64 b) := c1
      clear hO hown2 hS5 hn5 e2
      subst hkn
      go_wp2_with fail
      refine (windowsOfI_is (spnF b g) (mins a (n + 1)) G cg (n + 1) w.heap.size (w.heap.size + 1) _ (Lib.hid ?wa) hn4 ?wm (Lib.hid ?wb) (Lib.hid ?wd)).mono ?_
      case wa => rw [mins_len]
      case wm =>
        intro x hx
        have := mins_mem.1 hx
        have := hn.out
        omega
      case wb => intro w' h; exact HS5.out.below h
      case wd =>
        intro m w' hm h
        have hm2 := mins_mem.1 hm
        have z := h.size
        exact wiC1_is m b _ (g m) w.heap.size (w.heap.size + 1) q1 q2 w' ((h.cell (p := ⟨_, 1, none⟩) n1).trans c1) ((h.cell (p := ⟨_, 0, none⟩) n2).trans c2) (Lib.hid rfl) (Lib.hid fun hmb w2 h2 => HC.out m w2 (by omega) hmb (HBW.out.trans ((h.mono HBW.out.size).trans (h2.mono (Nat.le_trans HBW.out.size z)))))
      rintro e x7 hQ
      have he : (wof (spnF b g) (mins a (n + 1))).1 = rwL a (fun k => g (a + (k : Int))) n := wof_span a b g n hn.out
      rw [he] at hQ
      rcases hQ with ⟨hq, G7, cg7, rfl, hS7, hN7, hb7⟩ | ⟨hq, rfl, hb7⟩
      · have HS7 := Lib.hid hS7
        have HN7 := Lib.hid hN7
        have HQ7 := Lib.hid hq
        have hB7 : Below w.heap.size w x7 := HBW.out.trans (hb7.mono HBW.out.size)
        clear hS7 hN7 hb7 hq he
        go_wp2
        go_ret2
        exact .inl ⟨HQ7.out, G7, cg7, rfl, HS7.out, HN7.out, hB7⟩
      · have HQ7 := Lib.hid hq
        have hB7 : Below w.heap.size w x7 := HBW.out.trans (hb7.mono HBW.out.size)
        clear hb7 hq he
        go_wp2
        go_ret2
        exact .inr ⟨HQ7.out, rfl, hB7⟩
end Go.Proofs.YtojaompfffpofaaGreat
