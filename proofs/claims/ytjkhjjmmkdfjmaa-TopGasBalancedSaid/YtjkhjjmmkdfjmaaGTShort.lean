import Derived.Test.YtjkhjjmmkdfjmaaGTBeh2
import Derived.Outline
namespace Go.Proofs.Ytjkhjjmmkdfjmaa
open Go.ChangeShapes Go.WideShapes Go.ChangeAt Go.RowKit
set_option linter.unusedVariables false
set_option linter.unusedSimpArgs false
/-- What Short says. -/
def shoB (L : List Ve) (X : List Fl) : Prop := (∀ g ∈ L, g.nm.size ≤ 20) ∧ (∀ x ∈ X, x.fr.size ≤ 20 ∧ x.tz.size ≤ 20) ∧ (L.length ≤ 5 ∨ (20 < L.length ∧ L.length ≤ 22)) ∧ (X.length ≤ 12 ∨ (200 < X.length ∧ X.length ≤ 202))
set_option maxHeartbeats 4000000 in
set_option maxRecDepth 100000 in
theorem Short_any (L : List Ve) (A : Option Addr) (cap n : Nat) (X : List Fl) (fA : Option Addr) (fcap m : Nat) (w : World) (hlen : Hid (n = L.length)) (hl : n ≤ 9223372036854775807) (hL : Hid (SlRows veV 3 w A L)) (hm : Hid (m = X.length)) (hm2 : m ≤ 9223372036854775807) (hX : Hid (SlRows flV 8 w fA X)) :
    Calls Try.prog 13 #[.slice A n cap, .slice fA m fcap] w fun e w' => (e = .returned (.bool false) ∨ (e = .returned (.bool true) ∧ shoB L X)) ∧ Below w.heap.size w w' := by
  go_enter Try.func13, Try.ntmps13
  go_wp2_with fail
  go_loopw [5] (fun i wr => ∃ (k : Nat), k ≤ n ∧ i = .int .i64 k ∧ Hid (∀ j, j < k → (hj : j < L.length) → L[j].nm.size ≤ 20) ∧ Below w.heap.size w wr) (fun i _ => n - (intOf i).toNat)
  case atStart => exact ⟨0, by omega, rfl, fun j hj => by omega, Below.refl _ _⟩
  case round =>
    obtain ⟨k, hk, rfl, hz, hB⟩ := hrel
    by_cases hkn : k < n
    · have hkl : k < L.length := by have := hlen.out; omega
      have kn : (k : Int) < (n : Int) := by omega
      rcases hL.out with hnil | ⟨v, off, rfl, hlt, hR⟩
      · rw [hnil] at hkl; simp at hkl
      obtain ⟨a0, a1, a2⟩ := ve_at (hR.below hB hlt) hkl
      obtain ⟨x, hx⟩ : ∃ x, Hid (L[k].nm = x) := ⟨_, Lib.hid rfl⟩
      rw [hx.out] at a0
      by_cases hs : 20 < x.size
      · have hs2 : (20 : Int) < (x.size : Int) := by omega
        clear hz hx
        go_wp2
        go_ret
        exact ⟨Or.inl rfl, belA⟩
      · have hs2 : ¬ (20 : Int) < (x.size : Int) := by omega
        have hz2 : Hid (∀ j, j < k + 1 → (hj : j < L.length) → L[j].nm.size ≤ 20) := Lib.hid fun j hj hjl => by
          by_cases e : j = k
          · subst e; rw [hx.out]; omega
          · exact hz.out j (by omega) hjl
        clear hz hx
        go_wp2
        go_roundw
        case rel => exact ⟨k + 1, by omega, by go_num, hz2, belA⟩
        case measure => simp [intOf]; omega
    · have hkk : k = n := by omega
      subst hkk
      have kn : ¬ (k : Int) < (k : Int) := by omega
      have hzv : Hid (∀ g ∈ L, g.nm.size ≤ 20) := Lib.hid fun g hg => by
        obtain ⟨j, hj, rfl⟩ := List.getElem_of_mem hg
        exact hz.out j (by have := hlen.out; omega) hj
      clear hz
      go_wp2_with fail
      go_loopw [6] (fun i wr => ∃ (k : Nat), k ≤ m ∧ i = .int .i64 k ∧ Hid (∀ j, j < k → (hj : j < X.length) → X[j].fr.size ≤ 20 ∧ X[j].tz.size ≤ 20) ∧ Below w.heap.size w wr) (fun i _ => m - (intOf i).toNat)
      case atStart => exact ⟨0, by omega, rfl, Lib.hid fun j hj => by omega, hB⟩
      case round =>
        obtain ⟨q, hq, rfl, hz, hBr⟩ := hrel
        by_cases hqm : q < m
        · have hql : q < X.length := by have := hm.out; omega
          have qn : (q : Int) < (m : Int) := by omega
          rcases hX.out with hnil | ⟨u, off, rfl, hlt, hR⟩
          · rw [hnil] at hql; simp at hql
          obtain ⟨f0, f1, f2, f3, f4, f5, f6, f7⟩ := fl_at (hR.below hBr hlt) hql
          obtain ⟨x, hx⟩ : ∃ x, Hid (X[q].fr = x) := ⟨_, Lib.hid rfl⟩
          obtain ⟨y, hy⟩ : ∃ x, Hid (X[q].tz = x) := ⟨_, Lib.hid rfl⟩
          rw [hx.out] at f2
          rw [hy.out] at f3
          by_cases hs : 20 < x.size
          · have hs2 : (20 : Int) < (x.size : Int) := by omega
            clear hz hx hy
            go_wp2
            go_ret
            exact ⟨Or.inl rfl, belA⟩
          · have hs2 : ¬ (20 : Int) < (x.size : Int) := by omega
            by_cases ht : 20 < y.size
            · have ht2 : (20 : Int) < (y.size : Int) := by omega
              clear hz hx hy
              go_wp2
              go_ret
              exact ⟨Or.inl rfl, belA⟩
            · have ht2 : ¬ (20 : Int) < (y.size : Int) := by omega
              have hz2 : Hid (∀ j, j < q + 1 → (hj : j < X.length) → X[j].fr.size ≤ 20 ∧ X[j].tz.size ≤ 20) := Lib.hid fun j hj hjl => by
                by_cases e : j = q
                · subst e; rw [hx.out, hy.out]; omega
                · exact hz.out j (by omega) hjl
              clear hz hx hy
              go_wp2
              go_roundw
              case rel => exact ⟨q + 1, by omega, by go_num, hz2, belA⟩
              case measure => simp [intOf]; omega
        · have hqq : q = m := by omega
          subst hqq
          have qn : ¬ (q : Int) < (q : Int) := by omega
          have hzx : Hid (∀ x ∈ X, x.fr.size ≤ 20 ∧ x.tz.size ≤ 20) := Lib.hid fun x hx => by
            obtain ⟨j, hj, rfl⟩ := List.getElem_of_mem hx
            exact hz.out j (by have := hm.out; omega) hj
          clear hz
          have hin : ∀ {P : Prop}, P → P := fun h => h
          by_cases c1 : (k : Int) ≤ 5
          · by_cases c4 : (q : Int) ≤ 12
            · go_wp2
              go_ret
              exact ⟨(Or.inr ⟨rfl, hzv.out, hzx.out, Or.inl (by have := hlen.out; omega), Or.inl (by have := hm.out; omega)⟩), belA⟩
            · by_cases c5 : (200 : Int) < (q : Int)
              · by_cases c6 : (q : Int) ≤ 202
                · go_wp2
                  go_ret
                  exact ⟨(Or.inr ⟨rfl, hzv.out, hzx.out, Or.inl (by have := hlen.out; omega), Or.inr (by have := hm.out; omega)⟩), belA⟩
                · go_wp2
                  go_ret
                  exact ⟨(Or.inl rfl), belA⟩
              · go_wp2
                go_ret
                exact ⟨(Or.inl rfl), belA⟩
          · by_cases c2 : (20 : Int) < (k : Int)
            · by_cases c3 : (k : Int) ≤ 22
              · by_cases c4 : (q : Int) ≤ 12
                · go_wp2
                  go_ret
                  exact ⟨(Or.inr ⟨rfl, hzv.out, hzx.out, Or.inr (by have := hlen.out; omega), Or.inl (by have := hm.out; omega)⟩), belA⟩
                · by_cases c5 : (200 : Int) < (q : Int)
                  · by_cases c6 : (q : Int) ≤ 202
                    · go_wp2
                      go_ret
                      exact ⟨(Or.inr ⟨rfl, hzv.out, hzx.out, Or.inr (by have := hlen.out; omega), Or.inr (by have := hm.out; omega)⟩), belA⟩
                    · go_wp2
                      go_ret
                      exact ⟨(Or.inl rfl), belA⟩
                  · go_wp2
                    go_ret
                    exact ⟨(Or.inl rfl), belA⟩
              · go_wp2
                go_ret
                exact ⟨(Or.inl rfl), belA⟩
            · go_wp2
              go_ret
              exact ⟨(Or.inl rfl), belA⟩
end Go.Proofs.Ytjkhjjmmkdfjmaa
