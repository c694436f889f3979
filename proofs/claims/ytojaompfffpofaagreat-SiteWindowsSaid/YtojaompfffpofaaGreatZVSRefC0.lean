import Derived.Test.YtojaompfffpofaaGreatSPts
import Derived.Test.YtojaompfffpofaaGreatSLaw0
import Derived.Test.YtojaompfffpofaaGreatSAt
import Derived.Outline
namespace Go.Proofs.YtojaompfffpofaaGreat
def lsq (lo hi : Int) : Int := if lo ≤ 0 ∧ 0 ≤ hi then 0 else min (lo * lo) (hi * hi)
def msq (lo hi : Int) : Int := max (lo * lo) (hi * hi)
/-- The four quarters' enclosures of a point. -/
def qtr (p : Pt) : Nat → Int × Int
  | 1 => (-p.d, -p.c)
  | 2 => (-p.b, -p.a)
  | 3 => (p.c, p.d)
  | _ => (p.a, p.b)
theorem cosP_qtr (n : Nat) (h : n < 4096) : cosP n = qtr (atP (n % 1024) 11) (n / 1024) := by
  unfold cosP
  rcases (show n / 1024 = 0 ∨ n / 1024 = 1 ∨ n / 1024 = 2 ∨ n / 1024 = 3 by omega) with e | e | e | e <;> rw [e] <;> rfl
def okB (r s : Int × Int) : Bool := decide (r.1 ≤ r.2) && decide (r.2 - r.1 ≤ 1000) && decide (-100000000 ≤ s.1) && decide (s.1 ≤ s.2) && decide (s.2 ≤ 100000000) && decide (lsq r.1 r.2 + lsq s.1 s.2 ≤ 10000000000000000) && decide (10000000000000000 ≤ msq r.1 r.2 + msq s.1 s.2)
def okP (p : Pt) : Bool := okB (qtr p 0) (qtr p 3) && okB (qtr p 1) (qtr p 0) && okB (qtr p 2) (qtr p 1) && okB (qtr p 3) (qtr p 2)
theorem okP_all : allB okP (hvL.drop 1) pt0 = true := by decide +kernel
def meetB (r t : Int × Int) : Bool := decide (max r.1 t.1 ≤ min r.2 t.2)
def meetP (p q : Pt) : Bool := meetB (qtr p 0) (qtr q 3) && meetB (qtr p 1) (qtr q 2) && meetB (qtr p 2) (qtr q 1) && meetB (qtr p 3) (qtr q 0)
def mirB (m : Nat) : Bool := m == 0 || meetP (atP m 11) (atP (1024 - m) 11)
theorem mirB_all : (List.range 1024).all mirB = true := by decide +kernel
theorem mir0 : meetB (qtr pt0 0) (qtr pt0 0) = true ∧ meetB (qtr pt0 1) (qtr pt0 3) = true ∧ meetB (qtr pt0 2) (qtr pt0 2) = true ∧ meetB (qtr pt0 3) (qtr pt0 1) = true := by decide
theorem at0k : ∀ k, atP 0 k = pt0
  | 0 => rfl
  | k + 1 => by rw [atP, if_neg (by simp [bitB]), at0k k]
theorem at0 : atP 0 11 = pt0 := at0k 11
theorem cos_ok {n : Nat} (h : n < 4096) : okB (cosP n) (cosP ((n + 3072) % 4096)) = true := by
  rw [cosP_qtr n h, cosP_qtr _ (Nat.mod_lt _ (by omega)), show (n + 3072) % 4096 % 1024 = n % 1024 by omega]
  have k := atP_P okP_all (m := n % 1024) (Nat.mod_lt _ (by omega)) (j := 11) (by omega)
  unfold okP at k
  simp only [Bool.and_eq_true] at k
  obtain ⟨⟨⟨k0, k1⟩, k2⟩, k3⟩ := k
  rcases (show n / 1024 = 0 ∨ n / 1024 = 1 ∨ n / 1024 = 2 ∨ n / 1024 = 3 by omega) with e | e | e | e
  · rw [e, show (n + 3072) % 4096 / 1024 = 3 by omega]; exact k0
  · rw [e, show (n + 3072) % 4096 / 1024 = 0 by omega]; exact k1
  · rw [e, show (n + 3072) % 4096 / 1024 = 1 by omega]; exact k2
  · rw [e, show (n + 3072) % 4096 / 1024 = 2 by omega]; exact k3
theorem cos_mir {n : Nat} (h : n < 4096) : meetB (cosP n) (cosP ((4096 - n) % 4096)) = true := by
  rw [cosP_qtr n h, cosP_qtr _ (Nat.mod_lt _ (by omega))]
  by_cases hm : n % 1024 = 0
  · rw [show (4096 - n) % 4096 % 1024 = 0 by omega, hm, at0]
    obtain ⟨k0, k1, k2, k3⟩ := mir0
    rcases (show n / 1024 = 0 ∨ n / 1024 = 1 ∨ n / 1024 = 2 ∨ n / 1024 = 3 by omega) with e | e | e | e
    · rw [e, show (4096 - n) % 4096 / 1024 = 0 by omega]; exact k0
    · rw [e, show (4096 - n) % 4096 / 1024 = 3 by omega]; exact k1
    · rw [e, show (4096 - n) % 4096 / 1024 = 2 by omega]; exact k2
    · rw [e, show (4096 - n) % 4096 / 1024 = 1 by omega]; exact k3
  · have k := (List.all_eq_true.1 mirB_all) (n % 1024) (List.mem_range.2 (Nat.mod_lt _ (by omega)))
    unfold mirB meetP at k
    rw [show (n % 1024 == 0) = false by simpa using hm, Bool.false_or] at k
    simp only [Bool.and_eq_true] at k
    obtain ⟨⟨⟨k0, k1⟩, k2⟩, k3⟩ := k
    rw [show (4096 - n) % 4096 % 1024 = 1024 - n % 1024 by omega]
    rcases (show n / 1024 = 0 ∨ n / 1024 = 1 ∨ n / 1024 = 2 ∨ n / 1024 = 3 by omega) with e | e | e | e
    · rw [e, show (4096 - n) % 4096 / 1024 = 3 by omega]; exact k0
    · rw [e, show (4096 - n) % 4096 / 1024 = 2 by omega]; exact k1
    · rw [e, show (4096 - n) % 4096 / 1024 = 1 by omega]; exact k2
    · rw [e, show (4096 - n) % 4096 / 1024 = 0 by omega]; exact k3
end Go.Proofs.YtojaompfffpofaaGreat

namespace Go.Proofs.YtojaompfffpofaaGreat
open Go.ChangeShapes Go.WideShapes Go.ChangeAt Go.RowKit
set_option linter.unusedVariables false
set_option linter.unusedSimpArgs false
attribute [local go_sem ↓] Go.wp_at_zero Go.wp_at_succ
theorem bFl_is (n E : Int) (w : World) (h0 : -4000000000000000000 ≤ n) (h1 : n ≤ 4000000000000000000) (hE : Hid (dnO n = E)) :
    Calls Tryz.prog 115 #[.int .i64 n, .int .i64 100000000] w fun e w' => e = .returned (.int .i64 E) ∧ w = w' := by
  obtain ⟨q, hq⟩ : ∃ q, Hid (n.tdiv 100000000 = q) := ⟨_, rfl⟩
  obtain ⟨r, hr⟩ : ∃ r, Hid (n.tmod 100000000 = r) := ⟨_, rfl⟩
  have key : n = 100000000 * q + r ∧ (0 ≤ n → 0 ≤ r ∧ r < 100000000 ∧ 0 ≤ q) ∧ (n < 0 → -100000000 < r ∧ r ≤ 0 ∧ q ≤ 0) := by
    rw [← hq.out, ← hr.out]
    refine ⟨(Int.mul_tdiv_add_tmod n 100000000).symm, fun h => ?_, fun h => ?_⟩
    · rw [Int.tdiv_eq_ediv_of_nonneg h, Int.tmod_eq_emod_of_nonneg h]; omega
    · obtain ⟨m, rfl⟩ : ∃ m, n = -m := ⟨-n, by omega⟩
      rw [Int.neg_tdiv, Int.neg_tmod, Int.tdiv_eq_ediv_of_nonneg (by omega), Int.tmod_eq_emod_of_nonneg (by omega)]; omega
  obtain ⟨k1, k2, k3⟩ := key
  have hd : E = if r < 0 then q - 1 else q := by
    rw [← hE.out]; unfold dnO
    rcases Int.lt_or_le n 0 with h | h
    · have := k3 h; split <;> omega
    · have := k2 h; split <;> omega
  have b1 : -4000000000000000000 ≤ q ∧ q ≤ 4000000000000000000 ∧ -100000000 < r ∧ r < 100000000 := by
    rcases Int.lt_or_le n 0 with h | h
    · have := k3 h; omega
    · have := k2 h; omega
  obtain ⟨b2, b3, b4, b5⟩ := b1
  have m1 : n.tdiv 100000000 = q := hq.out
  have m2 : n.tmod 100000000 = r := hr.out
  have w1 : IntKind.i64.wrap q = q := IntWalk.i64_in _ (by omega)
  have w2 : IntKind.i64.wrap r = r := IntWalk.i64_in _ (by omega)
  have w3 : IntKind.i64.wrap (q - 1) = q - 1 := IntWalk.i64_in _ (by omega)
  by_cases hc : r < 0
  · have HE : Hid (E = q - 1) := Lib.hid (by rw [hd, if_pos hc])
    have hn0 : n < 0 := by rcases Int.lt_or_le n 0 with h | h; · exact h
                           · have := k2 h; omega
    clear hd k1 k2 k3 hE hq hr
    go_enter Tryz.func115, Tryz.ntmps115
    go_wp2
    go_ret
    exact ⟨ret_int HE.out.symm, rfl⟩
  · have HE : Hid (E = q) := Lib.hid (by rw [hd, if_neg hc])
    have d1 : 0 ≤ n → n / 100000000 = q := fun h => by rw [← m1, Int.tdiv_eq_ediv_of_nonneg h]
    have d2 : 0 ≤ n → n % 100000000 = r := fun h => by rw [← m2, Int.tmod_eq_emod_of_nonneg h]
    rcases Int.lt_or_le n 0 with hs | hs
    · clear hd k1 k2 k3 hE hq hr d1 d2
      go_enter Tryz.func115, Tryz.ntmps115
      go_wp2
      go_ret
      exact ⟨ret_int HE.out.symm, rfl⟩
    · have d3 := d1 hs
      have d4 := d2 hs
      clear hd k1 k2 k3 hE hq hr d1 d2
      go_enter Tryz.func115, Tryz.ntmps115
      go_wp2
      go_ret
      exact ⟨ret_int HE.out.symm, rfl⟩
theorem bCe_is (n E : Int) (w : World) (h0 : -4000000000000000000 ≤ n) (h1 : n ≤ 4000000000000000000) (hE : Hid (upO n = E)) :
    Calls Tryz.prog 116 #[.int .i64 n, .int .i64 100000000] w fun e w' => e = .returned (.int .i64 E) ∧ w = w' := by
  have e1 : IntKind.i64.wrap (-n) = -n := IntWalk.i64_in _ (by omega)
  have e2 : -4000000000000000000 ≤ dnO (-n) ∧ dnO (-n) ≤ 4000000000000000000 := by unfold dnO; omega
  obtain ⟨F, hF⟩ : ∃ F, Hid (dnO (-n) = F) := ⟨_, rfl⟩
  have hu : Hid (E = -F) := Lib.hid (by rw [← hE.out, ← hF.out]; rfl)
  rw [hu.out]
  rw [hF.out] at e2
  obtain ⟨e3, e4⟩ := e2
  have e5 : IntKind.i64.wrap (-F) = -F := IntWalk.i64_in _ (by omega)
  have C : Hid (∀ w, Calls Tryz.prog 115 #[.int .i64 (-n), .int .i64 100000000] w fun e w' => e = .returned (.int .i64 F) ∧ w = w') := fun w => bFl_is (-n) F w (by omega) (by omega) hF
  clear hE hu hF
  go_enter Tryz.func116, Tryz.ntmps116
  go_wp2_with ((go_at_call 115; ((with_reducible refine (C.out _).mono ?_)); rintro e w' ⟨rfl, rfl⟩))
  go_ret
  exact ⟨rfl, rfl⟩
theorem bMod_is (p r : Int) (w : World) (h0 : -4096 < p) (h1 : p < 4096) (hr : Hid (p % 4096 = r)) :
    Calls Tryz.prog 58 #[.int .i64 p, .int .i64 4096] w fun e w' => e = .returned (.int .i64 r) ∧ w = w' := by
  have hr2 := hr.out
  rcases Int.lt_or_le p 0 with h | h
  · have d1 : p.tmod 4096 = p := by
      obtain ⟨m, rfl⟩ : ∃ m, p = -m := ⟨-p, by omega⟩
      rw [Int.neg_tmod, Int.tmod_eq_emod_of_nonneg (by omega)]; omega
    have d2 : IntKind.i64.wrap p = p := IntWalk.i64_in _ (by omega)
    have d3 : IntKind.i64.wrap (p + 4096) = p + 4096 := IntWalk.i64_in _ (by omega)
    have HE : Hid (r = p + 4096) := Lib.hid (by omega)
    clear hr hr2
    go_enter Tryz.func58, Tryz.ntmps58
    go_wp2
    go_ret
    exact ⟨ret_int HE.out.symm, rfl⟩
  · have d1 : p.tmod 4096 = p := by rw [Int.tmod_eq_emod_of_nonneg h]; omega
    have d2 : IntKind.i64.wrap p = p := IntWalk.i64_in _ (by omega)
    have d4 : p % 4096 = p := by omega
    have HE : Hid (r = p) := Lib.hid (by omega)
    clear hr hr2
    go_enter Tryz.func58, Tryz.ntmps58
    go_wp2
    go_ret
    exact ⟨ret_int HE.out.symm, rfl⟩
theorem sq_bd {x : Int} (h0 : -100000000 ≤ x) (h1 : x ≤ 100000000) : 0 ≤ x * x ∧ x * x ≤ 10000000000000000 := by
  rcases Int.lt_or_le x 0 with h | h
  · have e : x * x = (-x) * (-x) := by rw [Int.neg_mul_neg]
    rw [e]
    exact ⟨Int.mul_nonneg (by omega) (by omega), Int.mul_le_mul (show -x ≤ 100000000 by omega) (show -x ≤ 100000000 by omega) (by omega) (by omega)⟩
  · exact ⟨Int.mul_nonneg h h, Int.mul_le_mul (show x ≤ 100000000 by omega) (show x ≤ 100000000 by omega) h (by omega)⟩
end Go.Proofs.YtojaompfffpofaaGreat
