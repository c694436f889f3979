/- Windows inside windows: the statement's 'inside'; minutes that are in windows are in those that have more (mathematics). -/
import Derived.Test.YtojaompfffpofaaGreatSUniq
import Derived.BigQuiet
import Derived.Outline
namespace Go.Proofs.YtojaompfffpofaaGreat
open Go.ChangeShapes Go.WideShapes Go.ChangeAt Go.RowKit
set_option linter.unusedVariables false
set_option linter.unusedSimpArgs false
attribute [local go_sem ↓] Go.wp_at_zero Go.wp_at_succ
theorem gap_apart {y : List Rg} (hy : Gap y) {v z : Rg} (hv : v ∈ y) (hz : z ∈ y) : v = z ∨ v.hi + 1 < z.lo ∨ z.hi + 1 < v.lo := by
  obtain ⟨i, hi, rfl⟩ := List.getElem_of_mem hv
  obtain ⟨j, hj, rfl⟩ := List.getElem_of_mem hz
  rcases Nat.lt_trichotomy i j with h | h | h
  · exact Or.inr (Or.inl (List.pairwise_iff_getElem.1 hy.2 i j hi hj h))
  · subst h; exact Or.inl rfl
  · exact Or.inr (Or.inr (List.pairwise_iff_getElem.1 hy.2 j i hj hi h))
/-- Whether a window lies in one of some windows. -/
def lieB (y : List Rg) (u : Rg) : Bool := y.any fun v => decide (v.lo ≤ u.lo) && decide (u.hi ≤ v.hi)
theorem gap_lie {x y : List Rg} (hx : Gap x) (hy : Gap y) (h : ∀ m, inW x m = true → inW y m = true) : ∀ u ∈ x, lieB y u = true := by
  intro u hu
  have hlo := hx.1 u hu
  obtain ⟨v, hv, h1, h2⟩ := inW_iff.1 (h u.lo (inW_iff.2 ⟨u, hu, Int.le_refl _, hlo⟩))
  unfold lieB
  rw [List.any_eq_true]
  refine ⟨v, hv, ?_⟩
  rw [Bool.and_eq_true, decide_eq_true_eq, decide_eq_true_eq]
  refine ⟨h1, ?_⟩
  rcases Int.lt_or_le v.hi u.hi with h3 | h3
  · exfalso
    obtain ⟨z, hz, h4, h5⟩ := inW_iff.1 (h (v.hi + 1) (inW_iff.2 ⟨u, hu, by omega, by omega⟩))
    rcases gap_apart hy hv hz with rfl | h6 | h6
    · omega
    · omega
    · have := hy.1 z hz; omega
  · exact h3
/-- The first so many windows hold a window. -/
def lieK (y : List Rg) (u : Rg) (k : Nat) : Bool := lieB (y.take k) u
theorem lieK_succ {y : List Rg} {u : Rg} {k : Nat} (hk : k < y.length) : lieK y u (k + 1) = (lieK y u k || (decide (y[k].lo ≤ u.lo) && decide (u.hi ≤ y[k].hi))) := by
  unfold lieK lieB
  rw [List.take_succ_eq_append_getElem hk, List.any_append]
  simp
set_option maxRecDepth 100000 in
set_option maxHeartbeats 2000000 in
theorem inside_is (x y : List Rg) (A B : Option Addr) (n k ca cb : Nat) (w : World) (hn : Hid (n = x.length)) (hk : Hid (k = y.length)) (n1 : n ≤ 1000000) (k1 : k ≤ 1000000) (HA : Hid (SlRows rgV 2 w A x)) (HB : Hid (SlRows rgV 2 w B y)) (hl : Hid (∀ u ∈ x, lieB y u = true)) :
    Calls Tryz.prog 24 #[.slice A n ca, .slice B k cb] w fun e w' => e = .returned (.bool true) ∧ Below w.heap.size w w' := by
  have HX : Hid (∀ w' : World, Below w.heap.size w w' → SlRows rgV 2 w' A x) := Lib.hid fun w' h => HA.out.below h
  have HY : Hid (∀ w' : World, Below w.heap.size w w' → SlRows rgV 2 w' B y) := Lib.hid fun w' h => HB.out.below h
  clear HA HB
  go_enter Tryz.func24, Tryz.ntmps24
  go_wp2
  go_loopw [5] (fun i wr => ∃ j : Nat, i = .int .i64 j ∧ j ≤ n ∧ Below w.heap.size w wr) (fun i _ => n - (intOf i).toNat)
  case atStart => exact ⟨0, rfl, by omega, (by (repeat (first | (with_reducible refine Below.drew ?_) | (with_reducible refine below_drewN ?_ _) | (with_reducible refine Below.alloc ?_ (by first | omega | (simp; done) | (simp; omega) | (simp at *; omega)) _) | (with_reducible refine Below.setCell ?_ (by first | omega | (simp; done) | (simp; omega) | (simp at *; omega)) _) | (with_reducible exact Below.refl _ _) | (with_reducible assumption) | (with_reducible refine Below.trans ?_ (Below.mono (by assumption) (by first | omega | (simp; done) | (simp; omega) | (simp at *; omega)))))))⟩
  case round =>
    obtain ⟨j, rfl, hj, hB⟩ := hrel
    have hsz := hB.size
    by_cases hjn : j < n
    · have hjl : j < x.length := by have := hn.out; omega
      have jn : (j : Int) < (n : Int) := by omega
      rcases HX.out _ hB with h0 | ⟨bl, off, rfl, hlt, hRa⟩
      · rw [h0] at hjl; simp at hjl
      obtain ⟨e0, e1⟩ := rg_at hRa hjl
      have eg : x.getD j default = x[j] := by rw [List.getD_eq_getElem?_getD, List.getElem?_eq_getElem hjl]; rfl
      have hlie := hl.out _ (List.getElem_mem hjl)
      rw [eg] at e0 e1
      obtain ⟨⟨ul, uh⟩, hu⟩ : ∃ u, Hid (x[j] = u) := ⟨_, Lib.hid rfl⟩
      rw [hu.out] at e0 e1 hlie
      dsimp only at e0 e1
      have HLIE := Lib.hid hlie
      have HRA : Hid (∀ w' : World, Below wr.heap.size wr w' → w'.cell? ⟨bl, off + j * 2, none⟩ = some (.int .i64 ul) ∧ w'.cell? ⟨bl, off + j * 2 + 1, none⟩ = some (.int .i64 uh)) := Lib.hid fun w' h => ⟨(h.cell (p := ⟨bl, off + j * 2, none⟩) hlt).trans e0, (h.cell (p := ⟨bl, off + j * 2 + 1, none⟩) hlt).trans e1⟩
      clear hRa eg hlie e0 e1 hu
      go_wp2
      go_loopw [6, 7] (fun p q w2 => ∃ (i : Nat) (b : Bool), p = .bool b ∧ q = .int .i64 i ∧ i ≤ k ∧ Hid (lieK y ⟨ul, uh⟩ i = b) ∧ Hid (Below wr.heap.size wr w2) ∧ Below w.heap.size w w2) (fun _ q _ => k - (intOf q).toNat)
      case atStart => exact ⟨0, false, rfl, rfl, by omega, Lib.hid rfl, Lib.hid (by (repeat (first | (with_reducible refine Below.drew ?_) | (with_reducible refine below_drewN ?_ _) | (with_reducible refine Below.alloc ?_ (by first | omega | (simp; done) | (simp; omega) | (simp at *; omega)) _) | (with_reducible refine Below.setCell ?_ (by first | omega | (simp; done) | (simp; omega) | (simp at *; omega)) _) | (with_reducible exact Below.refl _ _) | (with_reducible assumption) | (with_reducible refine Below.trans ?_ (Below.mono (by assumption) (by first | omega | (simp; done) | (simp; omega) | (simp at *; omega))))))), (by (repeat (first | (with_reducible refine Below.drew ?_) | (with_reducible refine below_drewN ?_ _) | (with_reducible refine Below.alloc ?_ (by first | omega | (simp; done) | (simp; omega) | (simp at *; omega)) _) | (with_reducible refine Below.setCell ?_ (by first | omega | (simp; done) | (simp; omega) | (simp at *; omega)) _) | (with_reducible exact Below.refl _ _) | (with_reducible assumption) | (with_reducible refine Below.trans ?_ (Below.mono (by assumption) (by first | omega | (simp; done) | (simp; omega) | (simp at *; omega)))))))⟩
      case round =>
        obtain ⟨i, b, rfl, rfl, hi, hb, hC, hB2⟩ := hrel
        have hsz2 := hB2.size
        have hC2 := hC.out
        by_cases hik : i < k
        · have hil : i < y.length := by have := hk.out; omega
          have ik : (i : Int) < (k : Int) := by omega
          rcases HY.out _ hB2 with h0 | ⟨bm, of2, rfl, hlt2, hRb⟩
          · rw [h0] at hil; simp at hil
          obtain ⟨f0, f1⟩ := rg_at hRb hil
          have eg : y.getD i default = y[i] := by rw [List.getD_eq_getElem?_getD, List.getElem?_eq_getElem hil]; rfl
          rw [eg] at f0 f1
          have hs := lieK_succ (u := ⟨ul, uh⟩) hil
          rw [hb.out] at hs
          obtain ⟨⟨vl, vh⟩, hv⟩ : ∃ u, Hid (y[i] = u) := ⟨_, Lib.hid rfl⟩
          rw [hv.out] at f0 f1 hs
          dsimp only at f0 f1 hs
          have HS := Lib.hid hs
          obtain ⟨e0, e1⟩ := HRA.out _ hC.out
          clear hRb eg hs hv
          cases b with
          | true =>
            have HS2 : Hid (lieK y ⟨ul, uh⟩ (i + 1) = true) := Lib.hid (by rw [HS.out]; rfl)
            go_upto_region 8 with (fail)
            go_big_quiet (fail)
            go_wp2
            go_roundw
            case rel => exact ⟨i + 1, true, rfl, by go_num, by omega, HS2, Lib.hid (by (repeat (first | (with_reducible refine Below.drew ?_) | (with_reducible refine below_drewN ?_ _) | (with_reducible refine Below.alloc ?_ (by first | omega | (simp; done) | (simp; omega) | (simp at *; omega)) _) | (with_reducible refine Below.setCell ?_ (by first | omega | (simp; done) | (simp; omega) | (simp at *; omega)) _) | (with_reducible exact Below.refl _ _) | (with_reducible assumption) | (with_reducible refine Below.trans ?_ (Below.mono (by assumption) (by first | omega | (simp; done) | (simp; omega) | (simp at *; omega))))))), (by (repeat (first | (with_reducible refine Below.drew ?_) | (with_reducible refine below_drewN ?_ _) | (with_reducible refine Below.alloc ?_ (by first | omega | (simp; done) | (simp; omega) | (simp at *; omega)) _) | (with_reducible refine Below.setCell ?_ (by first | omega | (simp; done) | (simp; omega) | (simp at *; omega)) _) | (with_reducible exact Below.refl _ _) | (with_reducible assumption) | (with_reducible refine Below.trans ?_ (Below.mono (by assumption) (by first | omega | (simp; done) | (simp; omega) | (simp at *; omega)))))))⟩
            case measure => (simp [intOf]) <;> omega
          | false =>
            by_cases hp : vl ≤ ul
            · have hpd : decide (vl ≤ ul) = true := by simpa using hp
              by_cases hq : uh ≤ vh
              · have hqd : decide (uh ≤ vh) = true := by simpa using hq
                have HS2 : Hid (lieK y ⟨ul, uh⟩ (i + 1) = true) := Lib.hid (by rw [HS.out, hpd, hqd]; rfl)
                go_upto_region 8 with (fail)
                go_big_quiet (fail)
                go_wp2
                go_roundw
                case rel => exact ⟨i + 1, true, rfl, by go_num, by omega, HS2, Lib.hid (by (repeat (first | (with_reducible refine Below.drew ?_) | (with_reducible refine below_drewN ?_ _) | (with_reducible refine Below.alloc ?_ (by first | omega | (simp; done) | (simp; omega) | (simp at *; omega)) _) | (with_reducible refine Below.setCell ?_ (by first | omega | (simp; done) | (simp; omega) | (simp at *; omega)) _) | (with_reducible exact Below.refl _ _) | (with_reducible assumption) | (with_reducible refine Below.trans ?_ (Below.mono (by assumption) (by first | omega | (simp; done) | (simp; omega) | (simp at *; omega))))))), (by (repeat (first | (with_reducible refine Below.drew ?_) | (with_reducible refine below_drewN ?_ _) | (with_reducible refine Below.alloc ?_ (by first | omega | (simp; done) | (simp; omega) | (simp at *; omega)) _) | (with_reducible refine Below.setCell ?_ (by first | omega | (simp; done) | (simp; omega) | (simp at *; omega)) _) | (with_reducible exact Below.refl _ _) | (with_reducible assumption) | (with_reducible refine Below.trans ?_ (Below.mono (by assumption) (by first | omega | (simp; done) | (simp; omega) | (simp at *; omega)))))))⟩
                case measure => (simp [intOf]) <;> omega
              · have hqd : decide (uh ≤ vh) = false := by simpa using hq
                have HS2 : Hid (lieK y ⟨ul, uh⟩ (i + 1) = false) := Lib.hid (by rw [HS.out, hpd, hqd]; rfl)
                go_upto_region 8 with (fail)
                go_big_quiet (fail)
                go_wp2
                go_roundw
                case rel => exact ⟨i + 1, false, rfl, by go_num, by omega, HS2, Lib.hid (by (repeat (first | (with_reducible refine Below.drew ?_) | (with_reducible refine below_drewN ?_ _) | (with_reducible refine Below.alloc ?_ (by first | omega | (simp; done) | (simp; omega) | (simp at *; omega)) _) | (with_reducible refine Below.setCell ?_ (by first | omega | (simp; done) | (simp; omega) | (simp at *; omega)) _) | (with_reducible exact Below.refl _ _) | (with_reducible assumption) | (with_reducible refine Below.trans ?_ (Below.mono (by assumption) (by first | omega | (simp; done) | (simp; omega) | (simp at *; omega))))))), (by (repeat (first | (with_reducible refine Below.drew ?_) | (with_reducible refine below_drewN ?_ _) | (with_reducible refine Below.alloc ?_ (by first | omega | (simp; done) | (simp; omega) | (simp at *; omega)) _) | (with_reducible refine Below.setCell ?_ (by first | omega | (simp; done) | (simp; omega) | (simp at *; omega)) _) | (with_reducible exact Below.refl _ _) | (with_reducible assumption) | (with_reducible refine Below.trans ?_ (Below.mono (by assumption) (by first | omega | (simp; done) | (simp; omega) | (simp at *; omega)))))))⟩
                case measure => (simp [intOf]) <;> omega
            · have hpd : decide (vl ≤ ul) = false := by simpa using hp
              have HS2 : Hid (lieK y ⟨ul, uh⟩ (i + 1) = false) := Lib.hid (by rw [HS.out, hpd]; rfl)
              go_upto_region 8 with (fail)
              go_big_quiet (fail)
              go_wp2
              go_roundw
              case rel => exact ⟨i + 1, false, rfl, by go_num, by omega, HS2, Lib.hid (by (repeat (first | (with_reducible refine Below.drew ?_) | (with_reducible refine below_drewN ?_ _) | (with_reducible refine Below.alloc ?_ (by first | omega | (simp; done) | (simp; omega) | (simp at *; omega)) _) | (with_reducible refine Below.setCell ?_ (by first | omega | (simp; done) | (simp; omega) | (simp at *; omega)) _) | (with_reducible exact Below.refl _ _) | (with_reducible assumption) | (with_reducible refine Below.trans ?_ (Below.mono (by assumption) (by first | omega | (simp; done) | (simp; omega) | (simp at *; omega))))))), (by (repeat (first | (with_reducible refine Below.drew ?_) | (with_reducible refine below_drewN ?_ _) | (with_reducible refine Below.alloc ?_ (by first | omega | (simp; done) | (simp; omega) | (simp at *; omega)) _) | (with_reducible refine Below.setCell ?_ (by first | omega | (simp; done) | (simp; omega) | (simp at *; omega)) _) | (with_reducible exact Below.refl _ _) | (with_reducible assumption) | (with_reducible refine Below.trans ?_ (Below.mono (by assumption) (by first | omega | (simp; done) | (simp; omega) | (simp at *; omega)))))))⟩
              case measure => (simp [intOf]) <;> omega
        · have hik2 : i = k := by omega
          have hbt : b = true := by
            have h1 := hb.out
            unfold lieK at h1
            rw [hik2, hk.out, List.take_length, HLIE.out] at h1
            exact h1.symm
          subst hbt
          clear hb hik2
          go_wp2
          go_roundw
          case rel => exact ⟨j + 1, by go_num, by omega, hB2⟩
          case measure => (simp [intOf]) <;> omega
    · go_wp2
      go_ret
      exact ⟨rfl, hB⟩
end Go.Proofs.YtojaompfffpofaaGreat
