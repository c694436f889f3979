/- What gas.lowest returns: a fraction in lowest terms. -/
import Derived.Test.YtpagbkbaphjmdaaDoorLeaf
import Derived.Outline
namespace Go.Proofs.YtpagbkbaphjmdaaDoor
open Go.ChangeShapes Go.WideShapes Go.ChangeAt Go.RowKit
set_option linter.unusedVariables false

/-- The greatest common divisor, as an Int. -/
def gcdI (n d : Int) : Int := (Int.gcd n d : Int)
theorem gcdI_pos (n d : Int) (h : 0 < d) : 0 < gcdI n d := by
  unfold gcdI
  have : Int.gcd n d ≠ 0 := by intro e; have := (Int.gcd_eq_zero_iff.1 e).2; omega
  omega
theorem gcdI_le (n d : Int) (h : 0 < d) : gcdI n d ≤ d := by
  unfold gcdI
  have := Int.le_of_dvd h (Int.gcd_dvd_right (a := n) (b := d))
  omega
theorem lowest_any (n d : Int) (w : World) (h0 : 0 ≤ n) (h1 : n ≤ 1000000000000000) (h2 : 0 < d) (h3 : d ≤ 1000000000000000) :
    Calls Tryd.prog 35 #[.int .i64 n, .int .i64 d] w fun e w' => e = .returned (.agg #[.int .i64 (n / gcdI n d), .int .i64 (d / gcdI n d)]) ∧ Below w.heap.size w w' := by
  have g1 := gcdI_pos n d h2
  have g2 := gcdI_le n d h2
  obtain ⟨g, hg⟩ : ∃ g, Hid (gcdI n d = g) := ⟨_, rfl⟩
  rw [hg.out] at g1 g2
  rw [hg.out]
  have q1 := quo_in n g h0 (by omega) g1
  have q2 := quo_in d g (by omega) (by omega) g1
  have g3 : ¬ g = 0 := by omega
  have g4 : 1 ≤ g := by omega
  have z0 : 0 ≤ d := by omega
  go_enter Tryd.func35, Tryd.ntmps35
  go_wp2
  go_loopw [5, 6] (fun a b wr => ∃ x y : Nat, a = .int .i64 x ∧ b = .int .i64 y ∧ x ≤ 1000000000000000 ∧ y ≤ 1000000000000000 ∧ Hid (((Nat.gcd x y : Nat) : Int) = g) ∧ ∃ k, wr = (w.alloc (.cells #[.int .i64 0, .int .i64 0] 48)).drewN k) (fun _ b _ => (intOf b).toNat)
  case atStart =>
    refine ⟨n.toNat, d.toNat, by rw [Int.toNat_of_nonneg h0], by rw [Int.toNat_of_nonneg z0], by omega, by omega, ?_, 0, rfl⟩
    rw [← hg.out]
    unfold gcdI Hid Int.gcd
    congr 1
    congr 1 <;> omega
  case round =>
    obtain ⟨x, y, rfl, rfl, hx, hy, hgc, k, rfl⟩ := hrel
    by_cases hyz : y = 0
    · subst hyz
      have hxg : (x : Int) = g := by have := hgc.out; simpa using this
      have HX := Lib.hid hxg
      clear hgc hxg
      have q3 : IntKind.i64.wrap (n.tdiv x) = n / g := by rw [HX.out]; exact q1
      have q4 : IntKind.i64.wrap (d.tdiv x) = d / g := by rw [HX.out]; exact q2
      have x0 : 1 ≤ (x : Int) := by rw [HX.out]; exact g4
      have x1 : ¬ (x : Int) = 0 := by omega
      have x2 : ¬ x = 0 := by omega
      have q5 : n / (x : Int) = n / g := by rw [HX.out]
      have q6 : d / (x : Int) = d / g := by rw [HX.out]
      clear q1 q2
      go_wp2
      go_region_held3 (fun w' => True) (trivial) (fail)
      go_wp2
      refine bodyPost_ret (v := .agg #[.int .i64 (n / g), .int .i64 (d / g)]) (by simp [results, Tryd.results35, go_sem]) rfl ⟨rfl, ?_⟩
      exact (by (repeat (first | (with_reducible refine Below.drew ?_) | (with_reducible refine below_drewN ?_ _) | (with_reducible refine Below.alloc ?_ (by first | omega | (simp; done) | (simp; omega) | (simp at *; omega)) _) | (with_reducible refine Below.setCell ?_ (by first | omega | (simp; done) | (simp; omega) | (simp at *; omega)) _) | (with_reducible exact Below.refl _ _) | (with_reducible assumption) | (with_reducible refine Below.trans ?_ (Below.mono (by assumption) (by first | omega | (simp; done) | (simp; omega) | (simp at *; omega)))))))
    · have y0 : 1 ≤ (y : Int) := by omega
      have y1 : ((y : Int) == 0) = false := by simpa using hyz
      have y2 : ¬ (y : Int) = 0 := by omega
      have m1 : x % y < y := Nat.mod_lt _ (by omega)
      have hgc2 : Hid (((Nat.gcd y (x % y) : Nat) : Int) = g) := by
        have := hgc.out
        rw [Nat.gcd_comm, Nat.gcd_rec] at this
        rw [Nat.gcd_comm]; exact this
      have e1 : (x : Int).tmod y = ((x % y : Nat) : Int) := by
        rw [Int.tmod_eq_emod_of_nonneg (by omega), ← Int.natCast_emod]
      have y3 : ((y : Int) != 0) = true := by simpa using hyz
      obtain ⟨z, HZ⟩ : ∃ z : Nat, Hid (x % y = z) := ⟨_, rfl⟩
      rw [HZ.out] at e1 m1 hgc2
      go_wp2
      go_region_held3 (fun w' => True) (trivial) (fail)
      go_roundw
      case rel => exact ⟨_, _, _, _, _, _, _, _, ⟨y, z, rfl, rfl, hy, by omega, hgc2, k + 1, rfl⟩, rfl⟩
      case measure => simp [intOf]; omega
end Go.Proofs.YtpagbkbaphjmdaaDoor
