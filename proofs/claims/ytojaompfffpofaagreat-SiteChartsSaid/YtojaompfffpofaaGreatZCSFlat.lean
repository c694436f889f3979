import Derived.Test.YtojaompfffpofaaGreatZCSCp8
import Derived.Outline
namespace Go.Proofs.YtojaompfffpofaaGreat
open Go.ChangeShapes Go.WideShapes Go.ChangeAt Go.RowKit
set_option linter.unusedVariables false
set_option linter.unusedSimpArgs false
attribute [local go_sem ↓] Go.wp_at_zero Go.wp_at_succ
/-- Whether a chart has few places, or too many, with short names and rows. -/
def flatB (Pl : List ByteArray) (M : List (List Int)) : Bool := !(decide (6 < Pl.length ∧ Pl.length ≤ 12 ∨ 14 < Pl.length ∨ 14 < M.length)) && Pl.all (fun s => decide (s.size ≤ 20)) && M.all (fun r => decide (r.length ≤ 14))
set_option maxRecDepth 100000 in
set_option maxHeartbeats 2000000 in
theorem flat_loops (A B : Option Addr) (n m ca cb : Nat) (Pl : List ByteArray) (M : List (List Int)) (p : Bool) (w : World) (hn : Hid (n = Pl.length)) (hm : Hid (m = M.length)) (hc : (n ≤ 6) ∨ (12 < n ∧ n ≤ 14)) (hm14 : m ≤ 14) (hsz : Hid (∀ s ∈ Pl, s.size ≤ 9223372036854775807)) (hrl : Hid (∀ k, k < m → (M.getD k []).length ≤ 9223372036854775807)) (HP0 : Hid (SlRows strV 1 w A Pl)) (HM0 : Hid (SlMat w B M)) (hp : Hid ((Pl.all (fun s => decide (s.size ≤ 20)) && M.all (fun r => decide (r.length ≤ 14))) = p)) :
    Calls Tryz.prog 42 #[.agg #[.slice A n ca, .slice B m cb]] w fun e w' => e = .returned (.bool p) ∧ Below w.heap.size w w' := by
  have im : ¬ (14 : Int) < (m : Int) := by omega
  have HC : Hid (((n : Int) ≤ 6) ∨ ((12 : Int) < (n : Int) ∧ (n : Int) ≤ 14)) := Lib.hid (by omega)
  have main : ∀ (x : Prop), x → x := fun _ h => h
  have KEY : (¬ (6 : Int) < (n : Int) ∧ ¬ (14 : Int) < (n : Int)) ∨ ((6 : Int) < (n : Int) ∧ ¬ (n : Int) ≤ 12 ∧ ¬ (14 : Int) < (n : Int)) := by omega
  clear main
  rcases KEY with ⟨i1, i2⟩ | ⟨i1, i3, i2⟩
  all_goals
    go_enter Tryz.func42, Tryz.ntmps42
    go_upto_region 1 with (fail)
    refine wp_world (ChS A B n m ca cb w) ⟨by simp [go_sem], by simp [go_sem], (by (repeat (first | (with_reducible refine Below.drew ?_) | (with_reducible refine below_drewN ?_ _) | (with_reducible refine Below.alloc ?_ (by first | omega | (simp; done) | (simp; omega) | (simp at *; omega)) _) | (with_reducible refine Below.setCell ?_ (by first | omega | (simp; done) | (simp; omega) | (simp at *; omega)) _) | (with_reducible exact Below.refl _ _) | (with_reducible assumption) | (with_reducible refine Below.trans ?_ (Below.mono (by assumption) (by first | omega | (simp; done) | (simp; omega) | (simp at *; omega))))))), by simp⟩ (fun u hu => ?_)
    have HS : Hid (∀ x, Below u.heap.size u x → ChS A B n m ca cb w x) := Lib.hid fun x hx => hu.below hx
    have HP : Hid (∀ x, Below u.heap.size u x → SlRows strV 1 x A Pl) := Lib.hid fun x hx => HP0.out.below (hu.below hx).be
    have HM : Hid (∀ x, Below u.heap.size u x → SlMat x B M) := Lib.hid fun x hx => HM0.out.below (hu.below hx).be
    obtain ⟨c0, c1, hBe, hlt⟩ := hu
    go_wp2
    go_loopw [3] (fun i wr => ∃ k : Nat, k ≤ n ∧ i = .int .i64 k ∧ Hid (∀ j, (hj : j < k) → (hj' : j < Pl.length) → Pl[j].size ≤ 20) ∧ Below u.heap.size u wr) (fun i _ => n - (intOf i).toNat)
    case atStart => exact ⟨0, by omega, rfl, Lib.hid fun j hj => by omega, (by (repeat (first | (with_reducible refine Below.drew ?_) | (with_reducible refine below_drewN ?_ _) | (with_reducible refine Below.alloc ?_ (by first | omega | (simp; done) | (simp; omega) | (simp at *; omega)) _) | (with_reducible refine Below.setCell ?_ (by first | omega | (simp; done) | (simp; omega) | (simp at *; omega)) _) | (with_reducible exact Below.refl _ _) | (with_reducible assumption) | (with_reducible refine Below.trans ?_ (Below.mono (by assumption) (by first | omega | (simp; done) | (simp; omega) | (simp at *; omega)))))))⟩
    case round =>
      obtain ⟨k, hk, rfl, hz, hB⟩ := hrel
      clear c0 c1 hBe hlt
      obtain ⟨c0, c1, hBe, hlt⟩ := HS.out _ hB
      by_cases hkn : k < n
      · have kn : (k : Int) < (n : Int) := by omega
        have hkl : k < Pl.length := by have := hn.out; omega
        rcases HP.out _ hB with h0 | ⟨b, off, rfl, hbl, hR⟩
        · rw [h0] at hkl; simp at hkl
        have e0 := hR k hkl 0 (by omega)
        rw [show (strV Pl[k])[0]? = some (.string Pl[k]) from rfl, Nat.add_zero, Nat.mul_one] at e0
        obtain ⟨s, hs⟩ : ∃ s, Hid (Pl[k] = s) := ⟨_, Lib.hid rfl⟩
        rw [hs.out] at e0
        clear hR
        by_cases h20 : s.size ≤ 20
        · have q1 : ¬ (20 : Int) < (s.size : Int) := by omega
          have hz2 : Hid (∀ j, (hj : j < k + 1) → (hj' : j < Pl.length) → Pl[j].size ≤ 20) := Lib.hid fun j hj hj' => by
            by_cases e : j = k
            · subst e; rw [hs.out]; exact h20
            · exact hz.out j (by omega) hj'
          clear hz hs
          go_wp2
          go_roundw
          case rel => exact ⟨k + 1, by omega, by go_num, hz2, (by (repeat (first | (with_reducible refine Below.drew ?_) | (with_reducible refine below_drewN ?_ _) | (with_reducible refine Below.alloc ?_ (by first | omega | (simp; done) | (simp; omega) | (simp at *; omega)) _) | (with_reducible refine Below.setCell ?_ (by first | omega | (simp; done) | (simp; omega) | (simp at *; omega)) _) | (with_reducible exact Below.refl _ _) | (with_reducible assumption) | (with_reducible refine Below.trans ?_ (Below.mono (by assumption) (by first | omega | (simp; done) | (simp; omega) | (simp at *; omega)))))))⟩
          case measure => (simp [intOf]) <;> omega
        · have q1 : (20 : Int) < (s.size : Int) := by omega
          have hr : Hid (p = false) := Lib.hid (by
            rw [← hp.out, Bool.and_eq_false_iff]; left
            rw [List.all_eq_false]
            exact ⟨s, by rw [← hs.out]; exact List.getElem_mem hkl, by simpa using h20⟩)
          clear hz hs
          go_wp2
          go_ret
          exact ⟨by rw [hr.out]; rfl, hBe⟩
      · have hkk : k = n := by omega
        have h1 : Hid (Pl.all (fun s => decide (s.size ≤ 20)) = true) := Lib.hid (by
          rw [List.all_eq_true]
          intro s hs
          obtain ⟨j, hj, rfl⟩ := List.getElem_of_mem hs
          simpa using hz.out j (by have := hn.out; omega) hj)
        clear hz hkk
        rename World => w5
        go_wp2
        go_loopw [4] (fun i wr => ∃ q : Nat, q ≤ m ∧ i = .int .i64 q ∧ Hid (∀ j, j < q → (M.getD j []).length ≤ 14) ∧ Below u.heap.size u wr) (fun i _ => m - (intOf i).toNat)
        case atStart => exact ⟨0, by omega, rfl, Lib.hid fun j hj => by omega, (by (repeat (first | (with_reducible refine Below.drew ?_) | (with_reducible refine below_drewN ?_ _) | (with_reducible refine Below.alloc ?_ (by first | omega | (simp; done) | (simp; omega) | (simp at *; omega)) _) | (with_reducible refine Below.setCell ?_ (by first | omega | (simp; done) | (simp; omega) | (simp at *; omega)) _) | (with_reducible exact Below.refl _ _) | (with_reducible assumption) | (with_reducible refine Below.trans ?_ (Below.mono (by assumption) (by first | omega | (simp; done) | (simp; omega) | (simp at *; omega)))))))⟩
        case round =>
          obtain ⟨q, hq, rfl, hy, hB2⟩ := hrel
          clear c0 c1 hBe hlt
          obtain ⟨c0, c1, hBe, hlt⟩ := HS.out _ hB2
          by_cases hqm : q < m
          · have qm : (q : Int) < (m : Int) := by omega
            have hql : q < M.length := by have := hm.out; omega
            rcases HM.out _ hB2 with h0 | ⟨b, off, rfl, hbl, hMt⟩
            · rw [h0] at hql; simp at hql
            obtain ⟨C, cq, h2, _⟩ := hMt q hql
            obtain ⟨z, hz⟩ : ∃ z, Hid ((M.getD q []).length = z) := ⟨_, Lib.hid rfl⟩
            rw [hz.out] at h2
            clear hMt
            by_cases h14 : z ≤ 14
            · have q1 : ¬ (14 : Int) < (z : Int) := by omega
              have hy2 : Hid (∀ j, j < q + 1 → (M.getD j []).length ≤ 14) := Lib.hid fun j hj => by
                by_cases e : j = q
                · rw [e, hz.out]; exact h14
                · exact hy.out j (by omega)
              clear hy hz
              go_wp2
              go_roundw
              case rel => exact ⟨q + 1, by omega, by go_num, hy2, (by (repeat (first | (with_reducible refine Below.drew ?_) | (with_reducible refine below_drewN ?_ _) | (with_reducible refine Below.alloc ?_ (by first | omega | (simp; done) | (simp; omega) | (simp at *; omega)) _) | (with_reducible refine Below.setCell ?_ (by first | omega | (simp; done) | (simp; omega) | (simp at *; omega)) _) | (with_reducible exact Below.refl _ _) | (with_reducible assumption) | (with_reducible refine Below.trans ?_ (Below.mono (by assumption) (by first | omega | (simp; done) | (simp; omega) | (simp at *; omega)))))))⟩
              case measure => (simp [intOf]) <;> omega
            · have q1 : (14 : Int) < (z : Int) := by omega
              have hr : Hid (p = false) := Lib.hid (by
                rw [← hp.out, Bool.and_eq_false_iff]; right
                rw [List.all_eq_false]
                exact ⟨M[q], List.getElem_mem hql, by rw [← getD_at hql (d := []), hz.out]; simpa using h14⟩)
              clear hy hz
              go_wp2
              go_ret
              exact ⟨by rw [hr.out]; rfl, hBe⟩
          · have hr : Hid (p = true) := Lib.hid (by
              rw [← hp.out, h1.out, Bool.true_and, List.all_eq_true]
              intro r hr
              obtain ⟨j, hj, rfl⟩ := List.getElem_of_mem hr
              have := hy.out j (by have := hm.out; omega)
              rw [getD_at hj] at this
              simpa using this)
            clear hy
            go_wp2
            go_ret
            exact ⟨by rw [hr.out]; rfl, hBe⟩
theorem flat_no (A B : Option Addr) (n m ca cb : Nat) (w : World) (h : (6 < n ∧ n ≤ 12) ∨ 14 < n ∨ 14 < m) : Calls Tryz.prog 42 #[.agg #[.slice A n ca, .slice B m cb]] w fun e w' => e = .returned (.bool false) ∧ Below w.heap.size w w' := by
  have KEY : ((6 : Int) < (n : Int) ∧ (n : Int) ≤ 12) ∨ ((6 : Int) < (n : Int) ∧ ¬ (n : Int) ≤ 12 ∧ (14 : Int) < (n : Int)) ∨ ((6 : Int) < (n : Int) ∧ ¬ (n : Int) ≤ 12 ∧ ¬ (14 : Int) < (n : Int) ∧ (14 : Int) < (m : Int)) ∨ (¬ (6 : Int) < (n : Int) ∧ ¬ (14 : Int) < (n : Int) ∧ (14 : Int) < (m : Int)) := by omega
  rcases KEY with ⟨i1, i2⟩ | ⟨i1, i2, i3⟩ | ⟨i1, i2, i3, i4⟩ | ⟨i1, i2, i3⟩
  all_goals
    go_enter Tryz.func42, Tryz.ntmps42
    go_wp2
    go_ret
    exact ⟨rfl, (by (repeat (first | (with_reducible refine Below.drew ?_) | (with_reducible refine below_drewN ?_ _) | (with_reducible refine Below.alloc ?_ (by first | omega | (simp; done) | (simp; omega) | (simp at *; omega)) _) | (with_reducible refine Below.setCell ?_ (by first | omega | (simp; done) | (simp; omega) | (simp at *; omega)) _) | (with_reducible exact Below.refl _ _) | (with_reducible assumption) | (with_reducible refine Below.trans ?_ (Below.mono (by assumption) (by first | omega | (simp; done) | (simp; omega) | (simp at *; omega)))))))⟩
theorem flat_any (A B : Option Addr) (n m ca cb : Nat) (Pl : List ByteArray) (M : List (List Int)) (p : Bool) (w : World) (hn : Hid (n = Pl.length)) (hm : Hid (m = M.length)) (hsz : Hid (∀ s ∈ Pl, s.size ≤ 9223372036854775807)) (hrl : Hid (∀ k, k < m → (M.getD k []).length ≤ 9223372036854775807)) (HP0 : Hid (SlRows strV 1 w A Pl)) (HM0 : Hid (SlMat w B M)) (hp : Hid (flatB Pl M = p)) :
    Calls Tryz.prog 42 #[.agg #[.slice A n ca, .slice B m cb]] w fun e w' => e = .returned (.bool p) ∧ Below w.heap.size w w' := by
  have e1 := hn.out
  have e2 := hm.out
  by_cases h : (6 < n ∧ n ≤ 12) ∨ 14 < n ∨ 14 < m
  · have hr : p = false := by
      rw [← hp.out]; unfold flatB
      rw [show decide (6 < Pl.length ∧ Pl.length ≤ 12 ∨ 14 < Pl.length ∨ 14 < M.length) = true from by rw [decide_eq_true_eq]; omega]; rfl
    rw [hr]; exact flat_no A B n m ca cb w h
  · refine flat_loops A B n m ca cb Pl M p w hn hm (by omega) (by omega) hsz hrl HP0 HM0 (Lib.hid ?_)
    rw [← hp.out]; unfold flatB
    rw [show decide (6 < Pl.length ∧ Pl.length ≤ 12 ∨ 14 < Pl.length ∨ 14 < M.length) = false from by rw [decide_eq_false_iff_not]; omega]; simp
end Go.Proofs.YtojaompfffpofaaGreat
