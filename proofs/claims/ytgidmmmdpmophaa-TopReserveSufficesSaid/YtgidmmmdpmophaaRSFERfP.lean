import Derived.Test.YtgidmmmdpmophaaRSFERfC
import Derived.Test.YtgidmmmdpmophaaRSFEPlan
import Derived.Test.YtgidmmmdpmophaaRSFNm
import Derived.Outline
namespace Go.Proofs.Ytgidmmmdpmophaa
open Go.ChangeShapes Go.WideShapes Go.ChangeAt Go.RowKit
set_option linter.unusedVariables false
set_option linter.unusedSimpArgs false
attribute [local go_sem ↓] Go.wp_at_zero Go.wp_at_succ
/-- At most 8 legs and 5 gases, or a few too many, and a short name. -/
def shortB (z dn gn : Nat) : Bool := decide (z ≤ 30) && (decide (dn ≤ 8) || (decide (60 < dn) && decide (dn ≤ 62))) && (decide (gn ≤ 5) || (decide (8 < gn) && decide (gn ≤ 10)))
theorem shortB_le {z dn gn : Nat} (h : shortB z dn gn = true) : z ≤ 30 ∧ dn ≤ 62 ∧ gn ≤ 10 := by
  unfold shortB at h
  simp at h
  omega
theorem Short_is (nm : ByteArray) (s : Int) (G : List Ga) (D : List Le) (A B : Option Addr) (gn gc dn dc : Nat) (p : Bool) (w : World) (hz : nm.size ≤ 9223372036854775807) (hgl : gn ≤ 9223372036854775807) (hdl : dn ≤ 9223372036854775807) (hp : Hid (shortB nm.size dn gn = p)) :
    Calls Try.prog 22 #[.agg #[.string nm, .int .i64 s, .slice A gn gc, .slice B dn dc]] w fun e w' => e = .returned (.bool p) ∧ Below w.heap.size w w' := by
  obtain ⟨z, hzz⟩ : ∃ z, nm.size = z := ⟨_, rfl⟩
  rw [hzz] at hp hz
  have hp' := hp.out
  unfold shortB at hp'
  clear hp
  by_cases h30 : z ≤ 30
  · rcases (show (dn ≤ 8) ∨ (60 < dn ∧ dn ≤ 62) ∨ (8 < dn ∧ dn ≤ 60) ∨ (62 < dn) by omega) with h | h | h | h
    · rcases (show (gn ≤ 5) ∨ (8 < gn ∧ gn ≤ 10) ∨ (5 < gn ∧ gn ≤ 8) ∨ (10 < gn) by omega) with k | k | k | k
      · skip
        have HE : Hid (p = true) := Lib.hid (by rw [← hp']; simp; omega)
        have f0 : (z : Int) ≤ 30 := by omega
        have f1 : (dn : Int) ≤ 8 := by omega
        have f2 : (gn : Int) ≤ 5 := by omega
        have hzI : (nm.size : Int) = z := by rw [hzz]
        clear hp'
        go_enter Try.func22, Try.ntmps22
        go_wp2
        go_ret
        exact ⟨ret_bool HE.out.symm, (by (repeat (first | (with_reducible refine Below.drew ?_) | (with_reducible refine below_drewN ?_ _) | (with_reducible refine Below.alloc ?_ (by first | omega | (simp; done) | (simp; omega) | (simp at *; omega)) _) | (with_reducible refine Below.setCell ?_ (by first | omega | (simp; done) | (simp; omega) | (simp at *; omega)) _) | (with_reducible exact Below.refl _ _) | (with_reducible assumption) | (with_reducible refine Below.trans ?_ (Below.mono (by assumption) (by first | omega | (simp; done) | (simp; omega) | (simp at *; omega)))))))⟩
      · skip
        have HE : Hid (p = true) := Lib.hid (by rw [← hp']; simp; omega)
        have f0 : (z : Int) ≤ 30 := by omega
        have f1 : (dn : Int) ≤ 8 := by omega
        have f2 : ¬ (gn : Int) ≤ 5 := by omega
        have f3 : (8 : Int) < gn := by omega
        have f4 : (gn : Int) ≤ 10 := by omega
        have hzI : (nm.size : Int) = z := by rw [hzz]
        clear hp'
        go_enter Try.func22, Try.ntmps22
        go_wp2
        go_ret
        exact ⟨ret_bool HE.out.symm, (by (repeat (first | (with_reducible refine Below.drew ?_) | (with_reducible refine below_drewN ?_ _) | (with_reducible refine Below.alloc ?_ (by first | omega | (simp; done) | (simp; omega) | (simp at *; omega)) _) | (with_reducible refine Below.setCell ?_ (by first | omega | (simp; done) | (simp; omega) | (simp at *; omega)) _) | (with_reducible exact Below.refl _ _) | (with_reducible assumption) | (with_reducible refine Below.trans ?_ (Below.mono (by assumption) (by first | omega | (simp; done) | (simp; omega) | (simp at *; omega)))))))⟩
      · skip
        have HE : Hid (p = false) := Lib.hid (by rw [← hp']; simp; omega)
        have f0 : (z : Int) ≤ 30 := by omega
        have f1 : (dn : Int) ≤ 8 := by omega
        have f2 : ¬ (gn : Int) ≤ 5 := by omega
        have f3 : ¬ (8 : Int) < gn := by omega
        have hzI : (nm.size : Int) = z := by rw [hzz]
        clear hp'
        go_enter Try.func22, Try.ntmps22
        go_wp2
        go_ret
        exact ⟨ret_bool HE.out.symm, (by (repeat (first | (with_reducible refine Below.drew ?_) | (with_reducible refine below_drewN ?_ _) | (with_reducible refine Below.alloc ?_ (by first | omega | (simp; done) | (simp; omega) | (simp at *; omega)) _) | (with_reducible refine Below.setCell ?_ (by first | omega | (simp; done) | (simp; omega) | (simp at *; omega)) _) | (with_reducible exact Below.refl _ _) | (with_reducible assumption) | (with_reducible refine Below.trans ?_ (Below.mono (by assumption) (by first | omega | (simp; done) | (simp; omega) | (simp at *; omega)))))))⟩
      · skip
        have HE : Hid (p = false) := Lib.hid (by rw [← hp']; simp; omega)
        have f0 : (z : Int) ≤ 30 := by omega
        have f1 : (dn : Int) ≤ 8 := by omega
        have f2 : ¬ (gn : Int) ≤ 5 := by omega
        have f3 : (8 : Int) < gn := by omega
        have f4 : ¬ (gn : Int) ≤ 10 := by omega
        have hzI : (nm.size : Int) = z := by rw [hzz]
        clear hp'
        go_enter Try.func22, Try.ntmps22
        go_wp2
        go_ret
        exact ⟨ret_bool HE.out.symm, (by (repeat (first | (with_reducible refine Below.drew ?_) | (with_reducible refine below_drewN ?_ _) | (with_reducible refine Below.alloc ?_ (by first | omega | (simp; done) | (simp; omega) | (simp at *; omega)) _) | (with_reducible refine Below.setCell ?_ (by first | omega | (simp; done) | (simp; omega) | (simp at *; omega)) _) | (with_reducible exact Below.refl _ _) | (with_reducible assumption) | (with_reducible refine Below.trans ?_ (Below.mono (by assumption) (by first | omega | (simp; done) | (simp; omega) | (simp at *; omega)))))))⟩
    · rcases (show (gn ≤ 5) ∨ (8 < gn ∧ gn ≤ 10) ∨ (5 < gn ∧ gn ≤ 8) ∨ (10 < gn) by omega) with k | k | k | k
      · skip
        have HE : Hid (p = true) := Lib.hid (by rw [← hp']; simp; omega)
        have f0 : (z : Int) ≤ 30 := by omega
        have f1 : ¬ (dn : Int) ≤ 8 := by omega
        have f2 : (60 : Int) < dn := by omega
        have f3 : (dn : Int) ≤ 62 := by omega
        have f4 : (gn : Int) ≤ 5 := by omega
        have hzI : (nm.size : Int) = z := by rw [hzz]
        clear hp'
        go_enter Try.func22, Try.ntmps22
        go_wp2
        go_ret
        exact ⟨ret_bool HE.out.symm, (by (repeat (first | (with_reducible refine Below.drew ?_) | (with_reducible refine below_drewN ?_ _) | (with_reducible refine Below.alloc ?_ (by first | omega | (simp; done) | (simp; omega) | (simp at *; omega)) _) | (with_reducible refine Below.setCell ?_ (by first | omega | (simp; done) | (simp; omega) | (simp at *; omega)) _) | (with_reducible exact Below.refl _ _) | (with_reducible assumption) | (with_reducible refine Below.trans ?_ (Below.mono (by assumption) (by first | omega | (simp; done) | (simp; omega) | (simp at *; omega)))))))⟩
      · skip
        have HE : Hid (p = true) := Lib.hid (by rw [← hp']; simp; omega)
        have f0 : (z : Int) ≤ 30 := by omega
        have f1 : ¬ (dn : Int) ≤ 8 := by omega
        have f2 : (60 : Int) < dn := by omega
        have f3 : (dn : Int) ≤ 62 := by omega
        have f4 : ¬ (gn : Int) ≤ 5 := by omega
        have f5 : (8 : Int) < gn := by omega
        have f6 : (gn : Int) ≤ 10 := by omega
        have hzI : (nm.size : Int) = z := by rw [hzz]
        clear hp'
        go_enter Try.func22, Try.ntmps22
        go_wp2
        go_ret
        exact ⟨ret_bool HE.out.symm, (by (repeat (first | (with_reducible refine Below.drew ?_) | (with_reducible refine below_drewN ?_ _) | (with_reducible refine Below.alloc ?_ (by first | omega | (simp; done) | (simp; omega) | (simp at *; omega)) _) | (with_reducible refine Below.setCell ?_ (by first | omega | (simp; done) | (simp; omega) | (simp at *; omega)) _) | (with_reducible exact Below.refl _ _) | (with_reducible assumption) | (with_reducible refine Below.trans ?_ (Below.mono (by assumption) (by first | omega | (simp; done) | (simp; omega) | (simp at *; omega)))))))⟩
      · skip
        have HE : Hid (p = false) := Lib.hid (by rw [← hp']; simp; omega)
        have f0 : (z : Int) ≤ 30 := by omega
        have f1 : ¬ (dn : Int) ≤ 8 := by omega
        have f2 : (60 : Int) < dn := by omega
        have f3 : (dn : Int) ≤ 62 := by omega
        have f4 : ¬ (gn : Int) ≤ 5 := by omega
        have f5 : ¬ (8 : Int) < gn := by omega
        have hzI : (nm.size : Int) = z := by rw [hzz]
        clear hp'
        go_enter Try.func22, Try.ntmps22
        go_wp2
        go_ret
        exact ⟨ret_bool HE.out.symm, (by (repeat (first | (with_reducible refine Below.drew ?_) | (with_reducible refine below_drewN ?_ _) | (with_reducible refine Below.alloc ?_ (by first | omega | (simp; done) | (simp; omega) | (simp at *; omega)) _) | (with_reducible refine Below.setCell ?_ (by first | omega | (simp; done) | (simp; omega) | (simp at *; omega)) _) | (with_reducible exact Below.refl _ _) | (with_reducible assumption) | (with_reducible refine Below.trans ?_ (Below.mono (by assumption) (by first | omega | (simp; done) | (simp; omega) | (simp at *; omega)))))))⟩
      · skip
        have HE : Hid (p = false) := Lib.hid (by rw [← hp']; simp; omega)
        have f0 : (z : Int) ≤ 30 := by omega
        have f1 : ¬ (dn : Int) ≤ 8 := by omega
        have f2 : (60 : Int) < dn := by omega
        have f3 : (dn : Int) ≤ 62 := by omega
        have f4 : ¬ (gn : Int) ≤ 5 := by omega
        have f5 : (8 : Int) < gn := by omega
        have f6 : ¬ (gn : Int) ≤ 10 := by omega
        have hzI : (nm.size : Int) = z := by rw [hzz]
        clear hp'
        go_enter Try.func22, Try.ntmps22
        go_wp2
        go_ret
        exact ⟨ret_bool HE.out.symm, (by (repeat (first | (with_reducible refine Below.drew ?_) | (with_reducible refine below_drewN ?_ _) | (with_reducible refine Below.alloc ?_ (by first | omega | (simp; done) | (simp; omega) | (simp at *; omega)) _) | (with_reducible refine Below.setCell ?_ (by first | omega | (simp; done) | (simp; omega) | (simp at *; omega)) _) | (with_reducible exact Below.refl _ _) | (with_reducible assumption) | (with_reducible refine Below.trans ?_ (Below.mono (by assumption) (by first | omega | (simp; done) | (simp; omega) | (simp at *; omega)))))))⟩
    · skip
      have HE : Hid (p = false) := Lib.hid (by rw [← hp']; simp; omega)
      have f0 : (z : Int) ≤ 30 := by omega
      have f1 : ¬ (dn : Int) ≤ 8 := by omega
      have f2 : ¬ (60 : Int) < dn := by omega
      have hzI : (nm.size : Int) = z := by rw [hzz]
      clear hp'
      go_enter Try.func22, Try.ntmps22
      go_wp2
      go_ret
      exact ⟨ret_bool HE.out.symm, (by (repeat (first | (with_reducible refine Below.drew ?_) | (with_reducible refine below_drewN ?_ _) | (with_reducible refine Below.alloc ?_ (by first | omega | (simp; done) | (simp; omega) | (simp at *; omega)) _) | (with_reducible refine Below.setCell ?_ (by first | omega | (simp; done) | (simp; omega) | (simp at *; omega)) _) | (with_reducible exact Below.refl _ _) | (with_reducible assumption) | (with_reducible refine Below.trans ?_ (Below.mono (by assumption) (by first | omega | (simp; done) | (simp; omega) | (simp at *; omega)))))))⟩
    · skip
      have HE : Hid (p = false) := Lib.hid (by rw [← hp']; simp; omega)
      have f0 : (z : Int) ≤ 30 := by omega
      have f1 : ¬ (dn : Int) ≤ 8 := by omega
      have f2 : (60 : Int) < dn := by omega
      have f3 : ¬ (dn : Int) ≤ 62 := by omega
      have hzI : (nm.size : Int) = z := by rw [hzz]
      clear hp'
      go_enter Try.func22, Try.ntmps22
      go_wp2
      go_ret
      exact ⟨ret_bool HE.out.symm, (by (repeat (first | (with_reducible refine Below.drew ?_) | (with_reducible refine below_drewN ?_ _) | (with_reducible refine Below.alloc ?_ (by first | omega | (simp; done) | (simp; omega) | (simp at *; omega)) _) | (with_reducible refine Below.setCell ?_ (by first | omega | (simp; done) | (simp; omega) | (simp at *; omega)) _) | (with_reducible exact Below.refl _ _) | (with_reducible assumption) | (with_reducible refine Below.trans ?_ (Below.mono (by assumption) (by first | omega | (simp; done) | (simp; omega) | (simp at *; omega)))))))⟩
  · skip
    have HE : Hid (p = false) := Lib.hid (by rw [← hp']; simp; omega)
    have f0 : ¬ (z : Int) ≤ 30 := by omega
    have hzI : (nm.size : Int) = z := by rw [hzz]
    clear hp'
    go_enter Try.func22, Try.ntmps22
    go_wp2
    go_ret
    exact ⟨ret_bool HE.out.symm, (by (repeat (first | (with_reducible refine Below.drew ?_) | (with_reducible refine below_drewN ?_ _) | (with_reducible refine Below.alloc ?_ (by first | omega | (simp; done) | (simp; omega) | (simp at *; omega)) _) | (with_reducible refine Below.setCell ?_ (by first | omega | (simp; done) | (simp; omega) | (simp at *; omega)) _) | (with_reducible exact Below.refl _ _) | (with_reducible assumption) | (with_reducible refine Below.trans ?_ (Below.mono (by assumption) (by first | omega | (simp; done) | (simp; omega) | (simp at *; omega)))))))⟩
theorem refGasB (o h E : Int) (w : World) (hE : Hid (gasE o h = E)) : Calls Try.prog 68 #[.agg #[.int .i64 o, .int .i64 h]] w fun e w' => e = .returned (.int .i64 E) ∧ Below w.heap.size w w' := (refCheckGas_any o h w).mono fun e w' h => ⟨by rw [h.1, hE.out], by rw [← h.2]; exact (Below.refl _ _).alloc (Nat.le_refl _) _⟩
set_option maxRecDepth 100000 in
set_option maxHeartbeats 4000000 in
theorem refCheckPlan_any (nm : ByteArray) (s : Int) (G : List Ga) (D : List Le) (A B : Option Addr) (gn gc dn dc : Nat) (N : Nat) (E : Int) (w : World) (hz : nm.size ≤ 1000000) (hgn : Hid (gn = G.length)) (hgl : gn ≤ 9223372036854775807) (hdn : Hid (dn = D.length)) (hdl : dn ≤ 9223372036854775807) (hG : Hid (SlRows gaV 2 w A G)) (hD : Hid (SlRows leV 3 w B D)) (hE : Hid (plnP nm s G D = (N, E))) :
    Calls Try.prog 47 #[.agg #[.string nm, .int .i64 s, .slice A gn gc, .slice B dn dc]] w fun e w' => e = .returned (.tuple #[.int .i64 N, .int .i64 E]) ∧ Below w.heap.size w w' := by
  have he := hE.out
  unfold plnP at he
  clear hE
  have hP0 : Hid (BlkF (w.alloc (.cells #[.string nm, .int .i64 s, .slice A gn gc, .slice B dn dc] 25)) w.heap.size w.heap.size [.string nm, .int .i64 s, .slice A gn gc, .slice B dn dc]) := Lib.hid (BlkF.made (B := w.heap.size) w [.string nm, .int .i64 s, .slice A gn gc, .slice B dn dc] 25 (Nat.le_refl _))
  cases hnb : nameB nm with
  | false =>
    have HNB := Lib.hid hnb
    rw [hnb, if_pos rfl] at he
    obtain ⟨rfl, rfl⟩ := Prod.mk.inj he
    clear he hnb
    go_enter Try.func47, Try.ntmps47
    go_wp2_with ((go_at_call 67; ((with_reducible refine (baseIsName_any _ _ _ hz HNB).mono ?_)); rintro e w' ⟨rfl, rfl⟩))
    go_ret2
    exact ⟨rfl, (by (repeat (first | (with_reducible refine Below.drew ?_) | (with_reducible refine below_drewN ?_ _) | (with_reducible refine Below.alloc ?_ (by first | omega | (simp; done) | (simp; omega) | (simp at *; omega)) _) | (with_reducible refine Below.setCell ?_ (by first | omega | (simp; done) | (simp; omega) | (simp at *; omega)) _) | (with_reducible exact Below.refl _ _) | (with_reducible assumption) | (with_reducible refine Below.trans ?_ (Below.mono (by assumption) (by first | omega | (simp; done) | (simp; omega) | (simp at *; omega)))))))⟩
  | true =>
  have HNB := Lib.hid hnb
  rw [hnb, if_neg (by simp)] at he
  cases hsb : inB s 400 1100 with
  | false =>
    have HSB := Lib.hid hsb
    rw [hsb, if_pos rfl] at he
    obtain ⟨rfl, rfl⟩ := Prod.mk.inj he
    clear he hnb hsb
    go_enter Try.func47, Try.ntmps47
    go_wp2_with (first | (go_at_call 67; ((with_reducible refine (baseIsName_any _ _ _ hz HNB).mono ?_)); rintro e w' ⟨rfl, rfl⟩) | (go_at_call 9; ((with_reducible refine (bW_r _ _ _ _ _ HSB).mono ?_)); rintro e w' ⟨rfl, rfl⟩))
    go_ret2
    exact ⟨rfl, (by (repeat (first | (with_reducible refine Below.drew ?_) | (with_reducible refine below_drewN ?_ _) | (with_reducible refine Below.alloc ?_ (by first | omega | (simp; done) | (simp; omega) | (simp at *; omega)) _) | (with_reducible refine Below.setCell ?_ (by first | omega | (simp; done) | (simp; omega) | (simp at *; omega)) _) | (with_reducible exact Below.refl _ _) | (with_reducible assumption) | (with_reducible refine Below.trans ?_ (Below.mono (by assumption) (by first | omega | (simp; done) | (simp; omega) | (simp at *; omega)))))))⟩
  | true =>
  have HSB := Lib.hid hsb
  rw [hsb, if_neg (by simp)] at he
  unfold gasesE at he
  rw [← hgn.out] at he
  by_cases g0 : gn = 0
  · rw [if_pos g0, if_pos (by decide)] at he
    obtain ⟨rfl, rfl⟩ := Prod.mk.inj he
    have f0 : ((gn : Int) == 0) = true := by simpa using g0
    clear he hnb hsb
    subst g0
    go_enter Try.func47, Try.ntmps47
    go_wp2_with (first | (go_at_call 67; ((with_reducible refine (baseIsName_any _ _ _ hz HNB).mono ?_)); rintro e w' ⟨rfl, rfl⟩) | (go_at_call 9; ((with_reducible refine (bW_r _ _ _ _ _ HSB).mono ?_)); rintro e w' ⟨rfl, rfl⟩))
    go_ret2
    exact ⟨rfl, (by (repeat (first | (with_reducible refine Below.drew ?_) | (with_reducible refine below_drewN ?_ _) | (with_reducible refine Below.alloc ?_ (by first | omega | (simp; done) | (simp; omega) | (simp at *; omega)) _) | (with_reducible refine Below.setCell ?_ (by first | omega | (simp; done) | (simp; omega) | (simp at *; omega)) _) | (with_reducible exact Below.refl _ _) | (with_reducible assumption) | (with_reducible refine Below.trans ?_ (Below.mono (by assumption) (by first | omega | (simp; done) | (simp; omega) | (simp at *; omega)))))))⟩
  rw [if_neg g0] at he
  have f0 : ((gn : Int) == 0) = false := by simpa using g0
  by_cases g8 : 8 < gn
  · rw [if_pos g8, if_pos (by decide)] at he
    obtain ⟨rfl, rfl⟩ := Prod.mk.inj he
    have f8 : (8 : Int) < (gn : Int) := by omega
    clear he hnb hsb
    go_enter Try.func47, Try.ntmps47
    go_wp2_with (first | (go_at_call 67; ((with_reducible refine (baseIsName_any _ _ _ hz HNB).mono ?_)); rintro e w' ⟨rfl, rfl⟩) | (go_at_call 9; ((with_reducible refine (bW_r _ _ _ _ _ HSB).mono ?_)); rintro e w' ⟨rfl, rfl⟩))
    go_ret2
    exact ⟨rfl, (by (repeat (first | (with_reducible refine Below.drew ?_) | (with_reducible refine below_drewN ?_ _) | (with_reducible refine Below.alloc ?_ (by first | omega | (simp; done) | (simp; omega) | (simp at *; omega)) _) | (with_reducible refine Below.setCell ?_ (by first | omega | (simp; done) | (simp; omega) | (simp at *; omega)) _) | (with_reducible exact Below.refl _ _) | (with_reducible assumption) | (with_reducible refine Below.trans ?_ (Below.mono (by assumption) (by first | omega | (simp; done) | (simp; omega) | (simp at *; omega)))))))⟩
  rw [if_neg g8] at he
  have f8 : ¬ (8 : Int) < (gn : Int) := by omega
  have HE := Lib.hid he
  clear he hnb hsb
  go_enter Try.func47, Try.ntmps47
  go_wp2_with (first | (go_at_call 67; ((with_reducible refine (baseIsName_any _ _ _ hz HNB).mono ?_)); rintro e w' ⟨rfl, rfl⟩) | (go_at_call 9; ((with_reducible refine (bW_r _ _ _ _ _ HSB).mono ?_)); rintro e w' ⟨rfl, rfl⟩))
  go_loopw [4] (fun i wr => ∃ k : Nat, k ≤ gn ∧ i = .int .i64 k ∧ Hid (∀ j, (hj : j < k) → (hl : j < G.length) → gaE G[j] = 0) ∧ Hid (BlkF wr w.heap.size w.heap.size [.string nm, .int .i64 s, .slice A gn gc, .slice B dn dc]) ∧ Below w.heap.size w wr) (fun i _ => gn - (intOf i).toNat)
  case atStart => exact ⟨0, by omega, rfl, Lib.hid fun j hj => absurd hj (by omega), hP0, (by (repeat (first | (with_reducible refine Below.drew ?_) | (with_reducible refine below_drewN ?_ _) | (with_reducible refine Below.alloc ?_ (by first | omega | (simp; done) | (simp; omega) | (simp at *; omega)) _) | (with_reducible refine Below.setCell ?_ (by first | omega | (simp; done) | (simp; omega) | (simp at *; omega)) _) | (with_reducible exact Below.refl _ _) | (with_reducible assumption) | (with_reducible refine Below.trans ?_ (Below.mono (by assumption) (by first | omega | (simp; done) | (simp; omega) | (simp at *; omega)))))))⟩
  case round =>
    obtain ⟨k, hk, rfl, hzz, hP, hB⟩ := hrel
    have zb := hB.size
    obtain ⟨c0, c1, c2, c3⟩ := b4 hP.out
    by_cases hkn : k < gn
    · have kn : (k : Int) < (gn : Int) := by omega
      have hkG : k < G.length := by have := hgn.out; omega
      obtain ⟨b, o, rfl, hlt, hR⟩ := (hG.out.below hB).at' hkG
      obtain ⟨d0, d1⟩ := ga_at hR hkG
      obtain ⟨go, hgo⟩ : ∃ z, Hid (G[k].o = z) := ⟨_, Lib.hid rfl⟩
      obtain ⟨gh, hgh⟩ : ∃ z, Hid (G[k].h = z) := ⟨_, Lib.hid rfl⟩
      obtain ⟨e, hee⟩ : ∃ e, Hid (gasE go gh = e) := ⟨_, Lib.hid rfl⟩
      have hg : Hid (gaE G[k] = e) := Lib.hid (by show gasE G[k].o G[k].h = e; rw [hgo.out, hgh.out]; exact hee.out)
      rw [hgo.out] at d0
      rw [hgh.out] at d1
      have hf := Lib.hid (@fstI_stop _ gaE G k hkG)
      clear hR
      go_wp2_with fail
      refine (refGasB go gh e _ hee).mono ?_
      rintro e' w1 ⟨rfl, hb1⟩
      have hB1 : Below w.heap.size w w1 := (by (repeat (first | (with_reducible refine Below.drew ?_) | (with_reducible refine below_drewN ?_ _) | (with_reducible refine Below.alloc ?_ (by first | omega | (simp; done) | (simp; omega) | (simp at *; omega)) _) | (with_reducible refine Below.setCell ?_ (by first | omega | (simp; done) | (simp; omega) | (simp at *; omega)) _) | (with_reducible exact Below.refl _ _) | (with_reducible assumption) | (with_reducible refine Below.trans ?_ (Below.mono (by assumption) (by first | omega | (simp; done) | (simp; omega) | (simp at *; omega)))))))
      have hP1 := Lib.hid (hP.out.below (show Below wr.heap.size wr w1 from (by (repeat (first | (with_reducible refine Below.drew ?_) | (with_reducible refine below_drewN ?_ _) | (with_reducible refine Below.alloc ?_ (by first | omega | (simp; done) | (simp; omega) | (simp at *; omega)) _) | (with_reducible refine Below.setCell ?_ (by first | omega | (simp; done) | (simp; omega) | (simp at *; omega)) _) | (with_reducible exact Below.refl _ _) | (with_reducible assumption) | (with_reducible refine Below.trans ?_ (Below.mono (by assumption) (by first | omega | (simp; done) | (simp; omega) | (simp at *; omega)))))))))
      clear hb1 hB zb d0 d1 hlt c0 c1 c2 c3 hP
      obtain ⟨c0, c1, c2, c3⟩ := b4 hP1.out
      by_cases h1 : e = 0
      · subst h1
        go_wp2
        go_roundw
        case rel => exact ⟨k + 1, by omega, by go_num, Lib.hid (fun j hj hl => by
          by_cases ej : j = k
          · subst ej; exact hg.out
          · exact hzz.out j (by omega) hl), hP1, hB1⟩
        case measure => simp [intOf]; omega
      · have he1 : (e != 0) = true := by simpa using h1
        have hr : Hid (N = 0 ∧ E = e) := Lib.hid (by
          have hq : fstI gaE G = e := by rw [hf.out (fun j hj => hzz.out j hj (by omega)) (by rw [hg.out]; exact h1)]; exact hg.out
          have := HE.out
          rw [hq, if_pos h1] at this
          obtain ⟨h1, h2⟩ := Prod.mk.inj this
          exact ⟨h1.symm, h2.symm⟩)
        obtain ⟨rfl, rfl⟩ := hr.out
        clear HE hr hf
        go_wp2
        go_ret2
        exact ⟨rfl, hB1⟩
    · have kn : ¬ (k : Int) < (gn : Int) := by omega
      have hr0 : Hid (legsE D (gn : Int) = (N, E)) := Lib.hid (by
        have hq : fstI gaE G = 0 := fstI_all fun j hj => hzz.out j (by have := hgn.out; omega) hj
        have := HE.out
        rw [hq, if_neg (by simp)] at this
        exact this)
      clear hzz HE
      have he := hr0.out
      unfold legsE at he
      rw [← hdn.out] at he
      clear hr0
      by_cases h6 : 60 < dn
      · rw [if_pos h6] at he
        obtain ⟨rfl, rfl⟩ := Prod.mk.inj he
        have f6 : (60 : Int) < (dn : Int) := by omega
        clear he
        go_wp2
        go_ret2
        exact ⟨rfl, hB⟩
      rw [if_neg h6] at he
      have HE := Lib.hid he
      have f6 : ¬ (60 : Int) < (dn : Int) := by omega
      have hP2 := hP
      have hB2 := hB
      clear he
      rename World => wo
      go_wp2_with fail
      go_loopw [6, 7] (fun t i wr => ∃ (k : Nat) (e : Int), k ≤ dn ∧ i = .int .i64 k ∧ t = .int .i64 e ∧ (0 ≤ e ∧ e ≤ 1000000) ∧ Hid (legsGo (D.drop k) gn e k = (N, E)) ∧ Hid (BlkF wr w.heap.size w.heap.size [.string nm, .int .i64 s, .slice A gn gc, .slice B dn dc]) ∧ Below w.heap.size w wr) (fun _ i _ => dn - (intOf i).toNat)
      case atStart => exact ⟨0, 0, by omega, rfl, rfl, by omega, HE, hP2, hB2⟩
      case round =>
        clear HE hP2 hB2 c0 c1 c2 c3 zb hP hB
        obtain ⟨k, e, hk, rfl, rfl, he, hzz, hP, hB⟩ := hrel
        have zb := hB.size
        obtain ⟨c0, c1, c2, c3⟩ := b4 hP.out
        by_cases hkn : k < dn
        · have kn : (k : Int) < (dn : Int) := by omega
          have hkD : k < D.length := by have := hdn.out; omega
          obtain ⟨b, o, rfl, hlt, hR⟩ := (hD.out.below hB).at' hkD
          obtain ⟨d0, d1, d2⟩ := le_at hR hkD
          have hy := hzz.out
          rw [legsGo_drop hkD] at hy
          obtain ⟨sc, hs⟩ : ∃ z, Hid (D[k].s = z) := ⟨_, Lib.hid rfl⟩
          obtain ⟨d, hd⟩ : ∃ z, Hid (D[k].d = z) := ⟨_, Lib.hid rfl⟩
          obtain ⟨g, hg⟩ : ∃ z, Hid (D[k].g = z) := ⟨_, Lib.hid rfl⟩
          rw [hs.out] at d0
          rw [hd.out] at d1
          rw [hg.out] at d2
          rw [hs.out, hd.out, hg.out] at hy
          have lw := hP.out.lt
          have n1 : wr.heap.size ≠ w.heap.size := by omega
          have n2 : w.heap.size ≠ wr.heap.size := by omega
          have n3 : wr.heap.size ≠ b := by omega
          have n4 : b ≠ wr.heap.size := by omega
          have ww : IntKind.i64.wrap ((gn : Int) - 1) = gn - 1 := IntWalk.i64_in _ (by omega)
          clear hR hzz
          by_cases h1 : inB sc 1 1000000 = true
          · have H1 := Lib.hid h1
            obtain ⟨s0, s1⟩ := inB_iff.1 h1
            have we : IntKind.i64.wrap (e + sc) = e + sc := IntWalk.i64_in _ (by omega)
            by_cases h2 : inB d 0 30000 = true
            · have H2 := Lib.hid h2
              rw [h1, h2, if_neg (by simp)] at hy
              by_cases h3 : inB g 0 ((gn : Int) - 1) = true
              · have H3 := Lib.hid h3
                rw [h3, if_neg (by simp)] at hy
                by_cases h4 : 1000000 < e + sc
                · rw [if_pos h4] at hy
                  obtain ⟨rfl, rfl⟩ := Prod.mk.inj hy
                  clear hy h1 h2 h3
                  go_wp2_with (go_at_call 9; first | ((with_reducible refine (bW_r _ _ _ _ _ H1).mono ?_); rintro e w' ⟨rfl, rfl⟩) | ((with_reducible refine (bW_r _ _ _ _ _ H2).mono ?_); rintro e w' ⟨rfl, rfl⟩) | ((with_reducible refine (bW_r _ _ _ _ _ H3).mono ?_); rintro e w' ⟨rfl, rfl⟩))
                  go_ret2
                  exact ⟨rfl, (by (repeat (first | (with_reducible refine Below.drew ?_) | (with_reducible refine below_drewN ?_ _) | (with_reducible refine Below.alloc ?_ (by first | omega | (simp; done) | (simp; omega) | (simp at *; omega)) _) | (with_reducible refine Below.setCell ?_ (by first | omega | (simp; done) | (simp; omega) | (simp at *; omega)) _) | (with_reducible exact Below.refl _ _) | (with_reducible assumption) | (with_reducible refine Below.trans ?_ (Below.mono (by assumption) (by first | omega | (simp; done) | (simp; omega) | (simp at *; omega)))))))⟩
                · rw [if_neg h4] at hy
                  have HY := Lib.hid hy
                  clear hy h1 h2 h3
                  go_wp2_with (go_at_call 9; first | ((with_reducible refine (bW_r _ _ _ _ _ H1).mono ?_); rintro e w' ⟨rfl, rfl⟩) | ((with_reducible refine (bW_r _ _ _ _ _ H2).mono ?_); rintro e w' ⟨rfl, rfl⟩) | ((with_reducible refine (bW_r _ _ _ _ _ H3).mono ?_); rintro e w' ⟨rfl, rfl⟩))
                  go_roundw
                  case rel => exact ⟨k + 1, e + sc, by omega, by go_num, rfl, by omega, HY, Lib.hid (hP.out.below (by (repeat (first | (with_reducible refine Below.drew ?_) | (with_reducible refine below_drewN ?_ _) | (with_reducible refine Below.alloc ?_ (by first | omega | (simp; done) | (simp; omega) | (simp at *; omega)) _) | (with_reducible refine Below.setCell ?_ (by first | omega | (simp; done) | (simp; omega) | (simp at *; omega)) _) | (with_reducible exact Below.refl _ _) | (with_reducible assumption) | (with_reducible refine Below.trans ?_ (Below.mono (by assumption) (by first | omega | (simp; done) | (simp; omega) | (simp at *; omega)))))))), (by (repeat (first | (with_reducible refine Below.drew ?_) | (with_reducible refine below_drewN ?_ _) | (with_reducible refine Below.alloc ?_ (by first | omega | (simp; done) | (simp; omega) | (simp at *; omega)) _) | (with_reducible refine Below.setCell ?_ (by first | omega | (simp; done) | (simp; omega) | (simp at *; omega)) _) | (with_reducible exact Below.refl _ _) | (with_reducible assumption) | (with_reducible refine Below.trans ?_ (Below.mono (by assumption) (by first | omega | (simp; done) | (simp; omega) | (simp at *; omega)))))))⟩
                  case measure => simp [intOf]; omega
              · have h3' : inB g 0 ((gn : Int) - 1) = false := by simpa using h3
                have H3 := Lib.hid h3'
                rw [if_pos h3'] at hy
                obtain ⟨rfl, rfl⟩ := Prod.mk.inj hy
                clear hy h1 h2 h3 h3'
                go_wp2_with (go_at_call 9; first | ((with_reducible refine (bW_r _ _ _ _ _ H1).mono ?_); rintro e w' ⟨rfl, rfl⟩) | ((with_reducible refine (bW_r _ _ _ _ _ H2).mono ?_); rintro e w' ⟨rfl, rfl⟩) | ((with_reducible refine (bW_r _ _ _ _ _ H3).mono ?_); rintro e w' ⟨rfl, rfl⟩))
                go_ret2
                exact ⟨rfl, (by (repeat (first | (with_reducible refine Below.drew ?_) | (with_reducible refine below_drewN ?_ _) | (with_reducible refine Below.alloc ?_ (by first | omega | (simp; done) | (simp; omega) | (simp at *; omega)) _) | (with_reducible refine Below.setCell ?_ (by first | omega | (simp; done) | (simp; omega) | (simp at *; omega)) _) | (with_reducible exact Below.refl _ _) | (with_reducible assumption) | (with_reducible refine Below.trans ?_ (Below.mono (by assumption) (by first | omega | (simp; done) | (simp; omega) | (simp at *; omega)))))))⟩
            · have h2' : inB d 0 30000 = false := by simpa using h2
              have H2 := Lib.hid h2'
              rw [h1, h2', if_pos (by simp)] at hy
              obtain ⟨rfl, rfl⟩ := Prod.mk.inj hy
              clear hy h1 h2 h2'
              go_wp2_with (go_at_call 9; first | ((with_reducible refine (bW_r _ _ _ _ _ H1).mono ?_); rintro e w' ⟨rfl, rfl⟩) | ((with_reducible refine (bW_r _ _ _ _ _ H2).mono ?_); rintro e w' ⟨rfl, rfl⟩))
              go_ret2
              exact ⟨rfl, (by (repeat (first | (with_reducible refine Below.drew ?_) | (with_reducible refine below_drewN ?_ _) | (with_reducible refine Below.alloc ?_ (by first | omega | (simp; done) | (simp; omega) | (simp at *; omega)) _) | (with_reducible refine Below.setCell ?_ (by first | omega | (simp; done) | (simp; omega) | (simp at *; omega)) _) | (with_reducible exact Below.refl _ _) | (with_reducible assumption) | (with_reducible refine Below.trans ?_ (Below.mono (by assumption) (by first | omega | (simp; done) | (simp; omega) | (simp at *; omega)))))))⟩
          · have h1' : inB sc 1 1000000 = false := by simpa using h1
            have H1 := Lib.hid h1'
            rw [h1', if_pos (by simp)] at hy
            obtain ⟨rfl, rfl⟩ := Prod.mk.inj hy
            clear hy h1 h1'
            go_wp2_with (go_at_call 9; first | ((with_reducible refine (bW_r _ _ _ _ _ H1).mono ?_); rintro e w' ⟨rfl, rfl⟩))
            go_ret2
            exact ⟨rfl, (by (repeat (first | (with_reducible refine Below.drew ?_) | (with_reducible refine below_drewN ?_ _) | (with_reducible refine Below.alloc ?_ (by first | omega | (simp; done) | (simp; omega) | (simp at *; omega)) _) | (with_reducible refine Below.setCell ?_ (by first | omega | (simp; done) | (simp; omega) | (simp at *; omega)) _) | (with_reducible exact Below.refl _ _) | (with_reducible assumption) | (with_reducible refine Below.trans ?_ (Below.mono (by assumption) (by first | omega | (simp; done) | (simp; omega) | (simp at *; omega)))))))⟩
        · have kn : ¬ (k : Int) < (dn : Int) := by omega
          have hy := hzz.out
          rw [List.drop_eq_nil_of_le (by have := hdn.out; omega)] at hy
          obtain ⟨rfl, rfl⟩ := Prod.mk.inj hy
          clear hy hzz
          go_wp2
          go_ret2
          exact ⟨rfl, hB⟩
set_option maxHeartbeats 1000000 in
theorem refErr_any (nm : ByteArray) (s : Int) (G : List Ga) (D : List Le) (A B : Option Addr) (gn gc dn dc : Nat) (N : Nat) (E : Int) (w : World) (hz : nm.size ≤ 1000000) (hgn : Hid (gn = G.length)) (hgl : gn ≤ 9223372036854775807) (hdn : Hid (dn = D.length)) (hdl : dn ≤ 9223372036854775807) (hG : Hid (SlRows gaV 2 w A G)) (hD : Hid (SlRows leV 3 w B D)) (hE : Hid (plnP nm s G D = (N, E))) :
    Calls Try.prog 23 #[.agg #[.string nm, .int .i64 s, .slice A gn gc, .slice B dn dc]] w fun e w' => e = .returned (.int .i64 E) ∧ Below w.heap.size w w' := by
  go_enter Try.func23, Try.ntmps23
  go_wp2_with fail
  refine (refCheckPlan_any nm s G D A B gn gc dn dc N E _ hz hgn hgl hdn hdl (Lib.hid (hG.out.below (by (repeat (first | (with_reducible refine Below.drew ?_) | (with_reducible refine below_drewN ?_ _) | (with_reducible refine Below.alloc ?_ (by first | omega | (simp; done) | (simp; omega) | (simp at *; omega)) _) | (with_reducible refine Below.setCell ?_ (by first | omega | (simp; done) | (simp; omega) | (simp at *; omega)) _) | (with_reducible exact Below.refl _ _) | (with_reducible assumption) | (with_reducible refine Below.trans ?_ (Below.mono (by assumption) (by first | omega | (simp; done) | (simp; omega) | (simp at *; omega))))))))) (Lib.hid (hD.out.below (by (repeat (first | (with_reducible refine Below.drew ?_) | (with_reducible refine below_drewN ?_ _) | (with_reducible refine Below.alloc ?_ (by first | omega | (simp; done) | (simp; omega) | (simp at *; omega)) _) | (with_reducible refine Below.setCell ?_ (by first | omega | (simp; done) | (simp; omega) | (simp at *; omega)) _) | (with_reducible exact Below.refl _ _) | (with_reducible assumption) | (with_reducible refine Below.trans ?_ (Below.mono (by assumption) (by first | omega | (simp; done) | (simp; omega) | (simp at *; omega))))))))) hE).mono ?_
  rintro e x1 ⟨rfl, hb1⟩
  have hc1 : Below w.heap.size w x1 := ((Below.refl _ _).alloc (by first | exact Nat.le_refl _ | (simp; done) | (simp; omega)) _).trans (hb1.mono (by first | exact Nat.le_refl _ | (simp; done) | (simp; omega)))
  have hB1 : Below w.heap.size w x1 := hc1
  have zu1 := hB1.size
  have PB : Hid (BlkF x1 w.heap.size (w.heap.size) [.string nm, .int .i64 s, .slice A gn gc, .slice B dn dc]) := Lib.hid ((BlkF.made (B := w.heap.size) w [.string nm, .int .i64 s, .slice A gn gc, .slice B dn dc] 25 (by first | exact Nat.le_refl _ | (simp; done) | (simp; omega))).below hb1)
  have zPB1 := PB.out.lt
  clear hb1
  obtain ⟨PB_1_0, PB_1_1, PB_1_2, PB_1_3⟩ := b4 PB.out
  have lPB_1 := PB.out.lt
  have nPB_1 : x1.heap.size ≠ w.heap.size := by omega
  have mPB_1 : w.heap.size ≠ x1.heap.size := by omega
  go_wp2
  go_ret
  exact ⟨rfl, hB1⟩
set_option maxHeartbeats 1000000 in
theorem refBoth_any (nm : ByteArray) (s : Int) (G : List Ga) (D : List Le) (A B : Option Addr) (gn gc dn dc : Nat) (T : List Ox) (r : Ru) (AT : Option Addr) (tn tc : Nat) (N : Nat) (E0 E1 E : Int) (w : World) (hz : nm.size ≤ 1000000) (hgn : Hid (gn = G.length)) (hgl : gn ≤ 9223372036854775807) (hdn : Hid (dn = D.length)) (hdl : dn ≤ 9223372036854775807) (hG : Hid (SlRows gaV 2 w A G)) (hD : Hid (SlRows leV 3 w B D)) (hE0 : Hid (plnP nm s G D = (N, E0))) (htn : Hid (tn = T.length)) (htl : tn ≤ 9223372036854775807) (hT : Hid (SlRows oxV 2 w AT T)) (hE1 : Hid (ruE T r = E1)) (hE : Hid (firE [E0, E1] = E)) :
    Calls Try.prog 7 #[.agg #[.string nm, .int .i64 s, .slice A gn gc, .slice B dn dc], .agg #[.slice AT tn tc, .int .i64 r.a, .int .i64 r.b, .int .i64 r.nc, .int .i64 r.dn, .int .i64 r.br, .int .i64 r.em, .int .i64 r.pa, .int .i64 r.sc]] w fun e w' => e = .returned (.int .i64 E) ∧ Below w.heap.size w w' := by
  go_enter Try.func7, Try.ntmps7
  go_wp2_with fail
  refine (refErr_any nm s G D A B gn gc dn dc N E0 _ hz hgn hgl hdn hdl (Lib.hid (hG.out.below (by (repeat (first | (with_reducible refine Below.drew ?_) | (with_reducible refine below_drewN ?_ _) | (with_reducible refine Below.alloc ?_ (by first | omega | (simp; done) | (simp; omega) | (simp at *; omega)) _) | (with_reducible refine Below.setCell ?_ (by first | omega | (simp; done) | (simp; omega) | (simp at *; omega)) _) | (with_reducible exact Below.refl _ _) | (with_reducible assumption) | (with_reducible refine Below.trans ?_ (Below.mono (by assumption) (by first | omega | (simp; done) | (simp; omega) | (simp at *; omega))))))))) (Lib.hid (hD.out.below (by (repeat (first | (with_reducible refine Below.drew ?_) | (with_reducible refine below_drewN ?_ _) | (with_reducible refine Below.alloc ?_ (by first | omega | (simp; done) | (simp; omega) | (simp at *; omega)) _) | (with_reducible refine Below.setCell ?_ (by first | omega | (simp; done) | (simp; omega) | (simp at *; omega)) _) | (with_reducible exact Below.refl _ _) | (with_reducible assumption) | (with_reducible refine Below.trans ?_ (Below.mono (by assumption) (by first | omega | (simp; done) | (simp; omega) | (simp at *; omega))))))))) hE0).mono ?_
  rintro e x1 ⟨rfl, hb1⟩
  have hc1 : Below w.heap.size w x1 := (((Below.refl _ _).alloc (by first | exact Nat.le_refl _ | (simp; done) | (simp; omega)) _).alloc (by first | exact Nat.le_refl _ | (simp; done) | (simp; omega)) _).trans (hb1.mono (by first | exact Nat.le_refl _ | (simp; done) | (simp; omega)))
  have hB1 : Below w.heap.size w x1 := hc1
  have zu1 := hB1.size
  have PB : Hid (BlkF x1 w.heap.size (w.heap.size) [.string nm, .int .i64 s, .slice A gn gc, .slice B dn dc]) := Lib.hid (((BlkF.made (B := w.heap.size) w [.string nm, .int .i64 s, .slice A gn gc, .slice B dn dc] 25 (by first | exact Nat.le_refl _ | (simp; done) | (simp; omega))).below ((Below.refl _ _).alloc (Nat.le_refl _) _)).below hb1)
  have zPB1 := PB.out.lt
  have RB : Hid (BlkF x1 w.heap.size (w.heap.size + 1) [.slice AT tn tc, .int .i64 r.a, .int .i64 r.b, .int .i64 r.nc, .int .i64 r.dn, .int .i64 r.br, .int .i64 r.em, .int .i64 r.pa, .int .i64 r.sc]) := Lib.hid (by have := (BlkF.made (B := w.heap.size) (w.alloc (.cells #[.string nm, .int .i64 s, .slice A gn gc, .slice B dn dc] 25)) [.slice AT tn tc, .int .i64 r.a, .int .i64 r.b, .int .i64 r.nc, .int .i64 r.dn, .int .i64 r.br, .int .i64 r.em, .int .i64 r.pa, .int .i64 r.sc] 30 (by first | exact Nat.le_refl _ | (simp; done) | (simp; omega))).below hb1; simpa using this)
  have zRB1 := RB.out.lt
  clear hb1
  obtain ⟨PB_1_0, PB_1_1, PB_1_2, PB_1_3⟩ := b4 PB.out
  have lPB_1 := PB.out.lt
  have nPB_1 : x1.heap.size ≠ w.heap.size := by omega
  have mPB_1 : w.heap.size ≠ x1.heap.size := by omega
  obtain ⟨RB_1_0, RB_1_1, RB_1_2, RB_1_3, RB_1_4, RB_1_5, RB_1_6, RB_1_7, RB_1_8⟩ := b9 RB.out
  have lRB_1 := RB.out.lt
  have nRB_1 : x1.heap.size ≠ w.heap.size + 1 := by omega
  have mRB_1 : w.heap.size + 1 ≠ x1.heap.size := by omega
  by_cases h0 : E0 = 0
  · subst h0
    have hr : Hid (E = E1) := Lib.hid (by rw [← hE.out]; by_cases e : E1 = 0 <;> simp [firE, e])
    go_wp2_with fail
    refine (refCheckRules_any T r AT tn tc E1 _ htn htl (Lib.hid (hT.out.below hB1)) hE1).mono ?_
    rintro e x2 ⟨rfl, hb2⟩
    have hc2 : Below x1.heap.size x1 x2 := hb2
    have hB2 : Below w.heap.size w x2 := hB1.trans (hc2.mono hB1.size)
    have zu2 := hB2.size
    replace PB := Lib.hid (PB.out.below hc2)
    replace RB := Lib.hid (RB.out.below hc2)
    clear PB_1_0 PB_1_1 PB_1_2 PB_1_3 lPB_1 nPB_1 mPB_1 RB_1_0 RB_1_1 RB_1_2 RB_1_3 RB_1_4 RB_1_5 RB_1_6 RB_1_7 RB_1_8 lRB_1 nRB_1 mRB_1
    clear hb2 hB1 zu1 hc1
    obtain ⟨PB_2_0, PB_2_1, PB_2_2, PB_2_3⟩ := b4 PB.out
    have lPB_2 := PB.out.lt
    have nPB_2 : x2.heap.size ≠ w.heap.size := by omega
    have mPB_2 : w.heap.size ≠ x2.heap.size := by omega
    obtain ⟨RB_2_0, RB_2_1, RB_2_2, RB_2_3, RB_2_4, RB_2_5, RB_2_6, RB_2_7, RB_2_8⟩ := b9 RB.out
    have lRB_2 := RB.out.lt
    have nRB_2 : x2.heap.size ≠ w.heap.size + 1 := by omega
    have mRB_2 : w.heap.size + 1 ≠ x2.heap.size := by omega
    go_wp2
    go_ret
    exact ⟨ret_int hr.out.symm, hB2⟩
  · have h1 : (E0 != 0) = true := by simpa using h0
    have hr : Hid (E = E0) := Lib.hid (by rw [← hE.out, firE, if_neg h0])
    go_wp2
    go_ret
    exact ⟨ret_int hr.out.symm, hB1⟩
end Go.Proofs.Ytgidmmmdpmophaa
