import Derived.Test.YtijdphlejokijaaGreatERSERule
import Derived.Test.YtijdphlejokijaaGreatERSEFol
import Derived.Test.YtijdphlejokijaaGreatERSPress
import Derived.BigQuiet
import Derived.Outline
namespace Go.Proofs.YtijdphlejokijaaGreat
open Go.ChangeShapes Go.WideShapes Go.ChangeAt Go.RowKit
set_option linter.unusedVariables false
set_option linter.unusedSimpArgs false
attribute [local go_sem ↓] Go.wp_at_zero Go.wp_at_succ
/-- A leg with where it begins. -/
structure Pl where
  s : Int
  d : Int
  g : Int
  nu : Int
  bs : Int
  bd : Int
  su : Int
  o : Int
  h : Int
/-- A right one. -/
structure PlOk (x : Pl) : Prop where
  s : 1 ≤ x.s ∧ x.s ≤ 1000000
  d : 0 ≤ x.d ∧ x.d ≤ 30000
  bd : 0 ≤ x.bd ∧ x.bd ≤ 30000
  bs : 0 ≤ x.bs ∧ x.bs ≤ 1000000
  su : 400 ≤ x.su ∧ x.su ≤ 1100
  ga : gasE x.o x.h = 0
def upE (n d : Int) : Int := (n + d - 1) / d
theorem upE_bd {n d : Int} (n0 : 0 ≤ n) (d1 : 1 ≤ d) : 0 ≤ upE n d ∧ upE n d ≤ n := by
  unfold upE
  refine ⟨Int.ediv_nonneg (by omega) (by omega), ?_⟩
  have h1 : n + d - 1 ≤ n * d + (d - 1) := by
    have : n * 1 ≤ n * d := Int.mul_le_mul_of_nonneg_left d1 n0
    omega
  have h2 : (n * d + (d - 1)) / d = n := by
    rw [Int.add_comm, Int.add_mul_ediv_right _ _ (by omega), Int.ediv_eq_zero_of_lt (by omega) (by omega)]; omega
  exact Int.le_trans (Int.ediv_le_ediv (by omega) h1) (Int.le_of_eq h2)
theorem dividedUp_is (n d q : Int) (w : World) (n0 : 0 ≤ n) (n1 : n ≤ 9000000000000000000) (d1 : 1 ≤ d) (d2 : d ≤ 1000000000000) (hq : Hid (upE n d = q)) :
    Calls Tryz.prog 73 #[.int .i64 n, .int .i64 d] w fun e w' => e = .returned (.int .i64 q) ∧ w = w' := by
  have bd := upE_bd n0 d1
  rw [hq.out] at bd
  have w1 : IntKind.i64.wrap (n + d) = n + d := IntWalk.i64_in _ (by omega)
  have w2 : IntKind.i64.wrap (n + d - 1) = n + d - 1 := IntWalk.i64_in _ (by omega)
  have w3 : IntKind.i64.wrap ((n + d - 1).tdiv d) = q := by
    rw [Int.tdiv_eq_ediv_of_nonneg (by omega), show (n + d - 1) / d = q from hq.out]; exact IntWalk.i64_in _ (by omega)
  have d0 : d ≠ 0 := by omega
  go_enter Tryz.func73, Tryz.ntmps73
  go_wp2
  go_ret
  exact ⟨rfl, rfl⟩
/-- The rate of the last row that is reached. -/
def rateG (T : List Ox) (p : Int) : Nat → Int
  | 0 => 0
  | k + 1 => if 1000 * (T.getD k default).f ≤ p then (T.getD k default).r else rateG T p k
def rateV (T : List Ox) (p : Int) : Int := rateG T p T.length
/-- A right table. -/
structure OxOk (T : List Ox) : Prop where
  l : T.length ≤ 20
  b : ∀ x ∈ T, 0 ≤ x.f ∧ x.f ≤ 4000 ∧ 0 ≤ x.r ∧ x.r ≤ 100000
  m : ∀ k, k + 1 < T.length → (T.getD k default).f < (T.getD (k + 1) default).f
theorem ox_ok {T : List Ox} (h : oxE T = 0) : OxOk T := by
  unfold oxE at h
  by_cases h20 : 20 < T.length
  · rw [if_pos h20] at h; exact absurd h (by decide)
  rw [if_neg h20] at h
  have hk : ∀ k, k < T.length → oxK T k = 0 := fun k hk => fstI_ok h k (by simpa using hk)
  refine ⟨by omega, fun x hx => ?_, fun k hk2 => ?_⟩
  · obtain ⟨k, hkl, rfl⟩ := List.mem_iff_getElem.1 hx
    have := hk k hkl
    unfold oxK at this
    rw [getD_at hkl] at this
    by_cases h1 : (inB T[k].f 0 4000 && inB T[k].r 0 100000) = false
    · rw [if_pos h1] at this; exact absurd this (by decide)
    · have q : inB T[k].f 0 4000 = true ∧ inB T[k].r 0 100000 = true := by simpa using h1
      have a := inB_iff.1 q.1
      have b := inB_iff.1 q.2
      exact ⟨a.1, a.2, b.1, b.2⟩
  · have := hk (k + 1) hk2
    unfold oxK at this
    rw [Nat.add_sub_cancel] at this
    by_cases h1 : (inB (T.getD (k + 1) default).f 0 4000 && inB (T.getD (k + 1) default).r 0 100000) = false
    · rw [if_pos h1] at this; exact absurd this (by decide)
    · rw [if_neg h1] at this
      by_cases h2 : 0 < k + 1 ∧ (T.getD (k + 1) default).f ≤ (T.getD k default).f
      · rw [if_pos h2] at this; exact absurd this (by decide)
      · have : ¬ (T.getD (k + 1) default).f ≤ (T.getD k default).f := fun h => h2 ⟨by omega, h⟩
        omega
theorem OxOk.at' {T : List Ox} (h : OxOk T) {k : Nat} (hk : k < T.length) : 0 ≤ T[k].f ∧ T[k].f ≤ 4000 ∧ 0 ≤ T[k].r ∧ T[k].r ≤ 100000 := h.b _ (List.getElem_mem hk)
theorem rateG_bd {T : List Ox} (h : OxOk T) (p : Int) : ∀ k, k ≤ T.length → 0 ≤ rateG T p k ∧ rateG T p k ≤ 100000
  | 0, _ => by unfold rateG; omega
  | k + 1, hk => by
    have hk' : k < T.length := by omega
    have ih := rateG_bd h p k (by omega)
    have b := h.at' hk'
    unfold rateG
    rw [getD_at hk']
    split <;> omega
set_option maxRecDepth 100000 in
theorem rateAt_is (T : List Ox) (A : Option Addr) (n cap : Nat) (p q : Int) (w : World) (hn : Hid (n = T.length)) (hT : Hid (SlRows oxV 2 w A T)) (hok : Hid (OxOk T)) (hq : Hid (rateV T p = q)) :
    Calls Tryz.prog 72 #[.slice A n cap, .int .i64 p] w fun e w' => e = .returned (.int .i64 q) ∧ Below w.heap.size w w' := by
  have n20 : n ≤ 20 := by have := hok.out.l; have := hn.out; omega
  go_enter Tryz.func72, Tryz.ntmps72
  go_wp2
  go_loopw [5, 10] (fun v i wr => ∃ (k : Nat) (z : Int), k ≤ n ∧ i = .int .i64 k ∧ v = .int .i64 z ∧ Hid (rateG T p k = z) ∧ Below w.heap.size w wr) (fun _ i _ => n - (intOf i).toNat)
  case atStart => exact ⟨0, 0, by omega, rfl, rfl, Lib.hid rfl, Below.refl _ _⟩
  case round =>
    obtain ⟨k, z, hk, rfl, rfl, hz, hB⟩ := hrel
    have zb := hB.size
    by_cases hkn : k < n
    · have kn : (k : Int) < (n : Int) := by omega
      have hkT : k < T.length := by have := hn.out; omega
      have bk := hok.out.at' hkT
      obtain ⟨b, o, rfl, hlt, hR⟩ := (hT.out.below hB).at' hkT
      obtain ⟨c0, c1⟩ := ox_at hR hkT
      obtain ⟨fr, hfr⟩ : ∃ z, Hid (T[k].f = z) := ⟨_, Lib.hid rfl⟩
      obtain ⟨rt, hrt⟩ : ∃ z, Hid (T[k].r = z) := ⟨_, Lib.hid rfl⟩
      rw [hfr.out] at c0
      rw [hrt.out] at c1
      rw [hfr.out, hrt.out] at bk
      have hN : Hid (rateG T p (k + 1) = if 1000 * fr ≤ p then rt else z) := Lib.hid (by show (if 1000 * (T.getD k default).f ≤ p then (T.getD k default).r else rateG T p k) = _; rw [getD_at hkT, hfr.out, hrt.out, hz.out])
      have hw : IntKind.i64.wrap (1000 * fr) = 1000 * fr := IntWalk.i64_in _ (by omega)
      clear hR
      by_cases e : 1000 * fr ≤ p
      · have hN2 : Hid (rateG T p (k + 1) = rt) := Lib.hid (by rw [hN.out, if_pos e])
        go_wp2
        go_roundw
        case rel => exact ⟨k + 1, rt, by omega, by go_num, rfl, hN2, (by (repeat (first | (with_reducible refine Below.drew ?_) | (with_reducible refine below_drewN ?_ _) | (with_reducible refine Below.alloc ?_ (by first | omega | (simp; done) | (simp; omega) | (simp at *; omega)) _) | (with_reducible refine Below.setCell ?_ (by first | omega | (simp; done) | (simp; omega) | (simp at *; omega)) _) | (with_reducible exact Below.refl _ _) | (with_reducible assumption) | (with_reducible refine Below.trans ?_ (Below.mono (by assumption) (by first | omega | (simp; done) | (simp; omega) | (simp at *; omega)))))))⟩
        case measure => simp [intOf]; omega
      · have hN2 : Hid (rateG T p (k + 1) = z) := Lib.hid (by rw [hN.out, if_neg e])
        go_wp2
        go_roundw
        case rel => exact ⟨k + 1, z, by omega, by go_num, rfl, hN2, (by (repeat (first | (with_reducible refine Below.drew ?_) | (with_reducible refine below_drewN ?_ _) | (with_reducible refine Below.alloc ?_ (by first | omega | (simp; done) | (simp; omega) | (simp at *; omega)) _) | (with_reducible refine Below.setCell ?_ (by first | omega | (simp; done) | (simp; omega) | (simp at *; omega)) _) | (with_reducible exact Below.refl _ _) | (with_reducible assumption) | (with_reducible refine Below.trans ?_ (Below.mono (by assumption) (by first | omega | (simp; done) | (simp; omega) | (simp at *; omega)))))))⟩
        case measure => simp [intOf]; omega
    · have kn : ¬ (k : Int) < (n : Int) := by omega
      have hr : Hid (z = q) := Lib.hid (by rw [← hz.out, ← hq.out, show k = T.length by have := hn.out; omega]; rfl)
      go_wp2
      go_ret
      exact ⟨ret_int hr.out, hB⟩
theorem depths_is (x : Pl) (lo hi : Int) (w : World) (hl : Hid (min x.bd x.d = lo)) (hh : Hid (max x.bd x.d = hi)) :
    Calls Tryz.prog 95 #[.agg #[.int .i64 x.s, .int .i64 x.d, .int .i64 x.g, .int .i64 x.nu, .int .i64 x.bs, .int .i64 x.bd, .int .i64 x.su, .int .i64 x.o, .int .i64 x.h]] w fun e w' => e = .returned (.agg #[.int .i64 lo, .int .i64 hi]) ∧ Below w.heap.size w w' := by
  obtain ⟨bd, hbd⟩ : ∃ z, x.bd = z := ⟨_, rfl⟩
  obtain ⟨d, hd⟩ : ∃ z, x.d = z := ⟨_, rfl⟩
  have hl2 := hl.out
  have hh2 := hh.out
  rw [hbd, hd] at hl2 hh2 ⊢
  clear hl hh
  by_cases h : bd ≤ d
  · have f2 : lo = bd := by omega
    have f3 : hi = d := by omega
    subst f2 f3
    have e1 : min lo hi = lo := by omega
    have e2 : max lo hi = hi := by omega
    clear hl2 hh2
    go_enter Tryz.func95, Tryz.ntmps95
    go_wp2
    all_goals
      refine bodyPost_ret (v := .agg #[.int .i64 lo, .int .i64 hi]) (by first | (simp [results, Tryz.results95, go_sem, *]; done) | (simp [results, Tryz.results95, go_sem, *]; omega)) rfl ⟨rfl, ?_⟩
      (repeat (first | (with_reducible refine Below.drew ?_) | (with_reducible refine below_drewN ?_ _) | (with_reducible refine Below.alloc ?_ (by first | omega | (simp; done) | (simp; omega) | (simp at *; omega)) _) | (with_reducible refine Below.setCell ?_ (by first | omega | (simp; done) | (simp; omega) | (simp at *; omega)) _) | (with_reducible exact Below.refl _ _) | (with_reducible assumption) | (with_reducible refine Below.trans ?_ (Below.mono (by assumption) (by first | omega | (simp; done) | (simp; omega) | (simp at *; omega))))))
  · have h' : d < bd := by omega
    have f2 : lo = d := by omega
    have f3 : hi = bd := by omega
    subst f2 f3
    have e1 : min hi lo = lo := by omega
    have e2 : max hi lo = hi := by omega
    clear hl2 hh2
    go_enter Tryz.func95, Tryz.ntmps95
    go_wp2
    all_goals
      refine bodyPost_ret (v := .agg #[.int .i64 lo, .int .i64 hi]) (by first | (simp [results, Tryz.results95, go_sem, *]; done) | (simp [results, Tryz.results95, go_sem, *]; omega)) rfl ⟨rfl, ?_⟩
      (repeat (first | (with_reducible refine Below.drew ?_) | (with_reducible refine below_drewN ?_ _) | (with_reducible refine Below.alloc ?_ (by first | omega | (simp; done) | (simp; omega) | (simp at *; omega)) _) | (with_reducible refine Below.setCell ?_ (by first | omega | (simp; done) | (simp; omega) | (simp at *; omega)) _) | (with_reducible exact Below.refl _ _) | (with_reducible assumption) | (with_reducible refine Below.trans ?_ (Below.mono (by assumption) (by first | omega | (simp; done) | (simp; omega) | (simp at *; omega))))))
set_option maxRecDepth 100000 in
theorem pressures_is (x : Pl) (w : World) (hok : Hid (PlOk x)) :
    Calls Tryz.prog 74 #[.agg #[.int .i64 x.s, .int .i64 x.d, .int .i64 x.g, .int .i64 x.nu, .int .i64 x.bs, .int .i64 x.bd, .int .i64 x.su, .int .i64 x.o, .int .i64 x.h]] w fun e w' => e = .returned (.tuple #[.int .i64 (x.su + x.bd), .int .i64 (x.su + x.d)]) ∧ Below w.heap.size w w' := by
  have a1 := hok.out.d
  have a2 := hok.out.bd
  have a3 := hok.out.su
  have w1 : IntKind.i64.wrap (x.su + x.bd) = x.su + x.bd := IntWalk.i64_in _ (by omega)
  have w2 : IntKind.i64.wrap (x.su + x.d) = x.su + x.d := IntWalk.i64_in _ (by omega)
  go_enter Tryz.func74, Tryz.ntmps74
  go_upto_region 1 with (fail)
  go_big_quiet (fail)
  go_wp2
  go_ret2
  exact ⟨rfl, (by (repeat (first | (with_reducible refine Below.drew ?_) | (with_reducible refine below_drewN ?_ _) | (with_reducible refine Below.alloc ?_ (by first | omega | (simp; done) | (simp; omega) | (simp at *; omega)) _) | (with_reducible refine Below.setCell ?_ (by first | omega | (simp; done) | (simp; omega) | (simp at *; omega)) _) | (with_reducible exact Below.refl _ _) | (with_reducible assumption) | (with_reducible refine Below.trans ?_ (Below.mono (by assumption) (by first | omega | (simp; done) | (simp; omega) | (simp at *; omega)))))))⟩
end Go.Proofs.YtijdphlejokijaaGreat
