/- What tissue.decayOf returns: the decay of some seconds with a half time, with the roots of some levels. -/
import Derived.Test.YtfaodlcfjhnhbaaLastReg
import Derived.Test.YtfaodlcfjhnhbaaMRoots
import Derived.Outline
namespace Go.Proofs.Ytfaodlcfjhnhbaa
open Go.ChangeShapes Go.WideShapes Go.ChangeAt Go.RowKit
set_option linter.unusedVariables false
set_option linter.unusedSimpArgs false

theorem fld0 (x y : Int) (w : World) : (Instr.field 47 (.agg #[.int .i64 x, .int .i64 y]) 0).run Try.prog w = .ok (.int .i64 x) w := by kernel_rfl
theorem fld1 (x y : Int) (w : World) : (Instr.field 47 (.agg #[.int .i64 x, .int .i64 y]) 1).run Try.prog w = .ok (.int .i64 y) w := by kernel_rfl
/-- So many halvings of the decay of no time. -/
def hv : Nat → Int × Int
  | 0 => (1000000000, 1000000000)
  | k + 1 => ((hv k).1 / 2, ((hv k).2 + 2 - 1) / 2)
theorem hv_bd : ∀ k, 0 ≤ (hv k).1 ∧ (hv k).1 ≤ 1000000000 ∧ 0 ≤ (hv k).2 ∧ (hv k).2 ≤ 1000000000
  | 0 => by unfold hv; simp
  | k + 1 => by
    have := hv_bd k
    unfold hv
    show 0 ≤ (hv k).1 / 2 ∧ (hv k).1 / 2 ≤ 1000000000 ∧ 0 ≤ ((hv k).2 + 2 - 1) / 2 ∧ ((hv k).2 + 2 - 1) / 2 ≤ 1000000000
    omega
theorem shLo_bd {n p : Int} (h0 : 0 ≤ n) (h1 : n ≤ 1000000000) (p0 : 0 ≤ p) (p1 : p ≤ 1000000000) : 0 ≤ shLo n p ∧ shLo n p ≤ 1000000000 := by
  have a := Int.mul_nonneg h0 p0
  have b := Int.mul_le_mul h1 p1 p0 (by omega)
  unfold shLo
  omega
theorem shHi_bd {n p : Int} (h0 : 0 ≤ n) (h1 : n ≤ 1000000000) (p0 : 0 ≤ p) (p1 : p ≤ 1000000000) : 0 ≤ shHi n p ∧ shHi n p ≤ 1000000000 := by
  have a := Int.mul_nonneg h0 p0
  have b := Int.mul_le_mul h1 p1 p0 (by omega)
  unfold shHi
  omega
/-- What is left of the seconds, and the decay, behind the roots of so many levels. -/
noncomputable def dst (s h : Int) : Nat → Int × Int × Int
  | 0 => (s % h, hv (min (s / h) 30).toNat)
  | k + 1 => if h ≤ (dst s h k).1 * 2 then ((dst s h k).1 * 2 - h, shLo (dst s h k).2.1 (rootP (k + 1)).1, shHi (dst s h k).2.2 (rootP (k + 1)).2) else ((dst s h k).1 * 2, (dst s h k).2)
theorem dst_bd {s h : Int} (h0 : 0 < h) : ∀ k, 0 ≤ (dst s h k).1 ∧ (dst s h k).1 < h ∧ 0 ≤ (dst s h k).2.1 ∧ (dst s h k).2.1 ≤ 1000000000 ∧ 0 ≤ (dst s h k).2.2 ∧ (dst s h k).2.2 ≤ 1000000000
  | 0 => by
    have := hv_bd (min (s / h) 30).toNat
    have h1 := Int.emod_nonneg s (show h ≠ 0 by omega)
    have h2 := Int.emod_lt_of_pos s h0
    unfold dst
    exact ⟨h1, h2, this.1, this.2.1, this.2.2.1, this.2.2.2⟩
  | k + 1 => by
    obtain ⟨a1, a2, a3, a4, a5, a6⟩ := dst_bd (s := s) h0 k
    obtain ⟨b1, b2, b3, b4⟩ := rootP_bd (k + 1)
    have c1 := shLo_bd a3 a4 (p := (rootP (k + 1)).1) (by omega) (by omega)
    have c2 := shHi_bd a5 a6 (p := (rootP (k + 1)).2) (by omega) (by omega)
    unfold dst
    split
    · exact ⟨by show 0 ≤ (dst s h k).1 * 2 - h; omega, by show (dst s h k).1 * 2 - h < h; omega, c1.1, c1.2, c2.1, c2.2⟩
    · exact ⟨by show 0 ≤ (dst s h k).1 * 2; omega, by show (dst s h k).1 * 2 < h; omega, a3, a4, a5, a6⟩
noncomputable def decL (s h : Int) (L : Nat) : Int := if (dst s h L).1 = 0 then (dst s h L).2.1 else shLo (dst s h L).2.1 (rootP L).1
noncomputable def decH (s h : Int) (L : Nat) : Int := (dst s h L).2.2
theorem dec_bd {s h : Int} (h0 : 0 < h) (L : Nat) : 0 ≤ decL s h L ∧ decL s h L ≤ 1000000000 ∧ 0 ≤ decH s h L ∧ decH s h L ≤ 1000000000 := by
  obtain ⟨a1, a2, a3, a4, a5, a6⟩ := dst_bd (s := s) h0 L
  obtain ⟨b1, b2, b3, b4⟩ := rootP_bd L
  have c1 := shLo_bd a3 a4 (p := (rootP L).1) (by omega) (by omega)
  unfold decL decH
  refine ⟨?_, ?_, a5, a6⟩ <;> split <;> omega
theorem dst_yes {s h : Int} {k : Nat} {r x y a b : Int} (hr : dst s h k = (r, x, y)) (ha : (((rootP (k + 1)).1 : Nat) : Int) = a) (hb : (((rootP (k + 1)).2 : Nat) : Int) = b) (hc : h ≤ r * 2) : dst s h (k + 1) = (r * 2 - h, shLo x a, shHi y b) := by
  rw [dst, hr, ha, hb, if_pos (show h ≤ ((r, x, y) : Int × Int × Int).1 * 2 from hc)]
theorem dst_no {s h : Int} {k : Nat} {r x y : Int} (hr : dst s h k = (r, x, y)) (hc : ¬ h ≤ r * 2) : dst s h (k + 1) = (r * 2, x, y) := by
  rw [dst, hr, if_neg (show ¬ h ≤ ((r, x, y) : Int × Int × Int).1 * 2 from hc)]
theorem rcs_len (n : Nat) : (rcs n).length = 2 * n := by
  induction n with
  | zero => rfl
  | succ n ih => rw [rcs_succ, List.length_append, ih]; simp; omega
theorem rcs_at : ∀ {n j : Nat}, j < n → (rcs n)[2 * j]? = some (.int .i64 (rootP j).1) ∧ (rcs n)[2 * j + 1]? = some (.int .i64 (rootP j).2)
  | 0, j, h => by omega
  | n + 1, j, h => by
    rw [rcs_succ]
    by_cases hj : j < n
    · obtain ⟨h1, h2⟩ := rcs_at hj
      rw [List.getElem?_append_left (by rw [rcs_len]; omega), List.getElem?_append_left (by rw [rcs_len]; omega)]
      exact ⟨h1, h2⟩
    · obtain rfl : j = n := by omega
      rw [List.getElem?_append_right (by rw [rcs_len]; omega), List.getElem?_append_right (by rw [rcs_len]; omega), rcs_len]
      simp
/-- A slice's cells hold the roots of the levels up to L. -/
def RtAt (w : World) (b L : Nat) : Prop := ∀ k u, (rcs (L + 1))[k]? = some u → w.cell? ⟨b, k, none⟩ = some u
theorem RtAt.at {w : World} {b L : Nat} (h : RtAt w b L) {j : Nat} (hj : j < L + 1) : w.cell? ⟨b, j * 2, none⟩ = some (.int .i64 (rootP j).1) ∧ w.cell? ⟨b, j * 2 + 1, none⟩ = some (.int .i64 (rootP j).2) := by
  obtain ⟨h1, h2⟩ := rcs_at hj
  rw [Nat.mul_comm j 2]
  exact ⟨h _ _ h1, h _ _ h2⟩
theorem RtAt.below {w w' : World} {b L n : Nat} (h : RtAt w b L) (hb : Below n w w') (hlt : b < n) : RtAt w' b L := fun k u hk => (hb.cell (p := ⟨b, k, none⟩) hlt).trans (h k u hk)
end Go.Proofs.Ytfaodlcfjhnhbaa
