/- Steps and marks of a leg; what is breathed: what the small functions of package tissue return. -/
import Derived.Test.YtbdiljbjddppcaaDecM
import Derived.Test.YtbdiljbjddppcaaTData
import Derived.Test.YtbdiljbjddppcaaDep
import Derived.Outline
namespace Go.Proofs.Ytbdiljbjddppcaa
open Go.ChangeShapes Go.WideShapes Go.ChangeAt Go.RowKit
set_option linter.unusedVariables false
set_option linter.unusedSimpArgs false

/-- A leg: pressures, seconds, gas. -/
structure Leg where
  f : Int
  t : Int
  s : Int
  o : Int
  h : Int
def Leg.ok (x : Leg) : Prop := (400 ≤ x.f ∧ x.f ≤ 31100) ∧ (400 ≤ x.t ∧ x.t ≤ 31100) ∧ (0 ≤ x.s ∧ x.s ≤ 100000) ∧ gasE x.o x.h = 0
/-- How many steps there are with a fineness. -/
def stN (s : Int) (n : Nat) : Int := if s = 0 then 0 else ((2 ^ n : Nat) : Int)
set_option maxHeartbeats 1000000 in
theorem stepCount_any (f t s o h : Int) (v : Value) (n : Nat) (w : World) (hv : v.oneCell' = true) (hn : n ≤ 6) :
    Calls Try.prog 110 #[.agg #[.int .i64 f, .int .i64 t, .int .i64 s, .int .i64 o, .int .i64 h, v, .int .i64 n]] w fun e w' => e = .returned (.int .i64 (stN s n)) ∧ Below w.heap.size w w' := by
  by_cases hs : s = 0
  · have hr : Hid (stN s n = 0) := if_pos hs
    have hb : (s == 0) = true := by simp [hs]
    clear hs
    go_enter Try.func110, Try.ntmps110
    go_wp2
    go_ret
    exact ⟨ret_int hr.out.symm, (by (repeat (first | (with_reducible refine Below.drew ?_) | (with_reducible refine below_drewN ?_ _) | (with_reducible refine Below.alloc ?_ (by first | omega | (simp; done) | (simp; omega) | (simp at *; omega)) _) | (with_reducible refine Below.setCell ?_ (by first | omega | (simp; done) | (simp; omega) | (simp at *; omega)) _) | (with_reducible exact Below.refl _ _) | (with_reducible assumption) | (with_reducible refine Below.trans ?_ (Below.mono (by assumption) (by first | omega | (simp; done) | (simp; omega) | (simp at *; omega)))))))⟩
  · have hb : (s == 0) = false := by simp [hs]
    have hr : Hid (stN s n = ((2 ^ n : Nat) : Int)) := if_neg hs
    clear hs
    obtain rfl | rfl | rfl | rfl | rfl | rfl | rfl : n = 0 ∨ n = 1 ∨ n = 2 ∨ n = 3 ∨ n = 4 ∨ n = 5 ∨ n = 6 := by omega
    all_goals
      go_enter Try.func110, Try.ntmps110
      go_wp2
      go_ret
      exact ⟨ret_int (by rw [hr.out]; rfl), (by (repeat (first | (with_reducible refine Below.drew ?_) | (with_reducible refine below_drewN ?_ _) | (with_reducible refine Below.alloc ?_ (by first | omega | (simp; done) | (simp; omega) | (simp at *; omega)) _) | (with_reducible refine Below.setCell ?_ (by first | omega | (simp; done) | (simp; omega) | (simp at *; omega)) _) | (with_reducible exact Below.refl _ _) | (with_reducible assumption) | (with_reducible refine Below.trans ?_ (Below.mono (by assumption) (by first | omega | (simp; done) | (simp; omega) | (simp at *; omega)))))))⟩
theorem exactly_any (n : Int) (w : World) :
    Calls Try.prog 54 #[.int .i64 n] w fun e w' => e = .returned (.agg #[.int .i64 n, .int .i64 n]) ∧ Below w.heap.size w w' := by
  go_enter Try.func54, Try.ntmps54
  go_wp2
  refine bodyPost_ret (v := .agg #[.int .i64 n, .int .i64 n]) (by simp [results, Try.results54, go_sem]) rfl ⟨rfl, ?_⟩
  (repeat (first | (with_reducible refine Below.drew ?_) | (with_reducible refine below_drewN ?_ _) | (with_reducible refine Below.alloc ?_ (by first | omega | (simp; done) | (simp; omega) | (simp at *; omega)) _) | (with_reducible refine Below.setCell ?_ (by first | omega | (simp; done) | (simp; omega) | (simp at *; omega)) _) | (with_reducible exact Below.refl _ _) | (with_reducible assumption) | (with_reducible refine Below.trans ?_ (Below.mono (by assumption) (by first | omega | (simp; done) | (simp; omega) | (simp at *; omega))))))
theorem pressuresOf_any (a b c d a' b' c' d' : Int) (w : World) :
    Calls Try.prog 111 #[.agg #[.int .i64 a, .int .i64 b, .int .i64 c, .int .i64 d], .agg #[.int .i64 a', .int .i64 b', .int .i64 c', .int .i64 d']] w fun e w' => e = .returned (.agg #[.int .i64 (min c c'), .int .i64 (max d d')]) ∧ Below w.heap.size w w' := by
  by_cases h1 : c' < c <;> by_cases h2 : d < d'
  · have e1 : min c c' = c' := by omega
    have e2 : max d d' = d' := by omega
    go_enter Try.func111, Try.ntmps111
    go_wp2
    all_goals
      refine bodyPost_ret (v := .agg #[.int .i64 c', .int .i64 d']) (by simp [results, Try.results111, go_sem, World.cell?_alloc_past]) rfl ⟨by first | rfl | rw [e1, e2], ?_⟩
      (repeat (first | (with_reducible refine Below.drew ?_) | (with_reducible refine below_drewN ?_ _) | (with_reducible refine Below.alloc ?_ (by first | omega | (simp; done) | (simp; omega) | (simp at *; omega)) _) | (with_reducible refine Below.setCell ?_ (by first | omega | (simp; done) | (simp; omega) | (simp at *; omega)) _) | (with_reducible exact Below.refl _ _) | (with_reducible assumption) | (with_reducible refine Below.trans ?_ (Below.mono (by assumption) (by first | omega | (simp; done) | (simp; omega) | (simp at *; omega))))))
  · have e1 : min c c' = c' := by omega
    have e2 : max d d' = d := by omega
    go_enter Try.func111, Try.ntmps111
    go_wp2
    all_goals
      refine bodyPost_ret (v := .agg #[.int .i64 c', .int .i64 d]) (by simp [results, Try.results111, go_sem, World.cell?_alloc_past]) rfl ⟨by first | rfl | rw [e1, e2], ?_⟩
      (repeat (first | (with_reducible refine Below.drew ?_) | (with_reducible refine below_drewN ?_ _) | (with_reducible refine Below.alloc ?_ (by first | omega | (simp; done) | (simp; omega) | (simp at *; omega)) _) | (with_reducible refine Below.setCell ?_ (by first | omega | (simp; done) | (simp; omega) | (simp at *; omega)) _) | (with_reducible exact Below.refl _ _) | (with_reducible assumption) | (with_reducible refine Below.trans ?_ (Below.mono (by assumption) (by first | omega | (simp; done) | (simp; omega) | (simp at *; omega))))))
  · have e1 : min c c' = c := by omega
    have e2 : max d d' = d' := by omega
    go_enter Try.func111, Try.ntmps111
    go_wp2
    all_goals
      refine bodyPost_ret (v := .agg #[.int .i64 c, .int .i64 d']) (by simp [results, Try.results111, go_sem, World.cell?_alloc_past]) rfl ⟨by first | rfl | rw [e1, e2], ?_⟩
      (repeat (first | (with_reducible refine Below.drew ?_) | (with_reducible refine below_drewN ?_ _) | (with_reducible refine Below.alloc ?_ (by first | omega | (simp; done) | (simp; omega) | (simp at *; omega)) _) | (with_reducible refine Below.setCell ?_ (by first | omega | (simp; done) | (simp; omega) | (simp at *; omega)) _) | (with_reducible exact Below.refl _ _) | (with_reducible assumption) | (with_reducible refine Below.trans ?_ (Below.mono (by assumption) (by first | omega | (simp; done) | (simp; omega) | (simp at *; omega))))))
  · have e1 : min c c' = c := by omega
    have e2 : max d d' = d := by omega
    go_enter Try.func111, Try.ntmps111
    go_wp2
    all_goals
      refine bodyPost_ret (v := .agg #[.int .i64 c, .int .i64 d]) (by simp [results, Try.results111, go_sem, World.cell?_alloc_past]) rfl ⟨by first | rfl | rw [e1, e2], ?_⟩
      (repeat (first | (with_reducible refine Below.drew ?_) | (with_reducible refine below_drewN ?_ _) | (with_reducible refine Below.alloc ?_ (by first | omega | (simp; done) | (simp; omega) | (simp at *; omega)) _) | (with_reducible refine Below.setCell ?_ (by first | omega | (simp; done) | (simp; omega) | (simp at *; omega)) _) | (with_reducible exact Below.refl _ _) | (with_reducible assumption) | (with_reducible refine Below.trans ?_ (Below.mono (by assumption) (by first | omega | (simp; done) | (simp; omega) | (simp at *; omega))))))
theorem NitrogenOf_good (o h : Int) (w : World) (hg : Hid (gasE o h = 0)) :
    Calls Try.prog 104 #[.agg #[.int .i64 o, .int .i64 h]] w fun e w' => e = .returned (.tuple #[.int .i64 (1000 - o - h), .int .i64 0]) ∧ Below w.heap.size w w' := by
  obtain ⟨a1, a2, a3, a4, a5⟩ := gasE_z hg.out
  have hc : ∀ w, Calls Try.prog 51 #[.agg #[.int .i64 o, .int .i64 h]] w fun e w' => e = .returned (.int .i64 0) ∧ Below w.heap.size w w' := fun w => by
    have := CheckGas_any o h w
    rw [hg.out] at this
    exact this.mono fun e w' h => ⟨h.1, by rw [← h.2]; exact (by (repeat (first | (with_reducible refine Below.drew ?_) | (with_reducible refine below_drewN ?_ _) | (with_reducible refine Below.alloc ?_ (by first | omega | (simp; done) | (simp; omega) | (simp at *; omega)) _) | (with_reducible refine Below.setCell ?_ (by first | omega | (simp; done) | (simp; omega) | (simp at *; omega)) _) | (with_reducible exact Below.refl _ _) | (with_reducible assumption) | (with_reducible refine Below.trans ?_ (Below.mono (by assumption) (by first | omega | (simp; done) | (simp; omega) | (simp at *; omega)))))))⟩
  have HC := Lib.hid hc
  clear hc
  go_enter Try.func104, Try.ntmps104
  go_wp2_with ((go_at_call 51; ((with_reducible refine (HC.out _).mono ?_)); rintro e w1 ⟨rfl, hbw⟩; obtain ⟨hbc, hbf⟩ := bcell hbw; have hbs := hbw.size))
  have c0 : w1.cell? ⟨w.heap.size, 0, none⟩ = some (.int .i64 o) := by rw [hbc _ _ (by simp)]; simp [go_sem]
  have c1 : w1.cell? ⟨w.heap.size, 1, none⟩ = some (.int .i64 h) := by rw [hbc _ _ (by simp)]; simp [go_sem]
  go_wp2_with ((go_at_call 113; ((with_reducible refine (nitrogenOf_any _ _ _ a1 a2 a3 a4).mono ?_)); rintro e w' ⟨rfl, rfl⟩))
  go_ret2
  exact ⟨by first | rfl | (simp; done), (by (repeat (first | (with_reducible refine Below.drew ?_) | (with_reducible refine below_drewN ?_ _) | (with_reducible refine Below.alloc ?_ (by first | omega | (simp; done) | (simp; omega) | (simp at *; omega)) _) | (with_reducible refine Below.setCell ?_ (by first | omega | (simp; done) | (simp; omega) | (simp at *; omega)) _) | (with_reducible exact Below.refl _ _) | (with_reducible assumption) | (with_reducible refine Below.trans ?_ (Below.mono (by assumption) (by first | omega | (simp; done) | (simp; omega) | (simp at *; omega)))))))⟩
theorem inertOf_any (o h : Int) (w : World) (hg : Hid (gasE o h = 0)) :
    Calls Try.prog 93 #[.agg #[.int .i64 o, .int .i64 h]] w fun e w' => e = .returned (.agg #[.int .i64 (1000 - o - h), .int .i64 h]) ∧ Below w.heap.size w w' := by
  go_enter Try.func93, Try.ntmps93
  go_wp2_with fail
  refine (NitrogenOf_good o h _ hg).mono ?_
  rintro e w1 ⟨rfl, hbw1⟩
  obtain ⟨hbc, hbf⟩ := bcell hbw1
  have hbs := hbw1.size
  try simp at hbs
  have c1 : w1.cell? ⟨w.heap.size, 1, none⟩ = some (.int .i64 h) := by rw [hbc _ _ (by simp; omega)]; simp [go_sem, World.cell?_alloc_past]
  have d0 : w1.cell? ⟨w.heap.size + 1, 0, none⟩ = some (.int .i64 0) := by rw [hbc _ _ (by simp)]; simp [go_sem]
  have d1 : w1.cell? ⟨w.heap.size + 1, 1, none⟩ = some (.int .i64 0) := by rw [hbc _ _ (by simp)]; simp [go_sem]
  have f0 : ∀ j, w1.frozen? ⟨w.heap.size + 1, j, none⟩ = false := fun j => by rw [hbf _ _ (by simp)]; simp [go_sem]
  have hB1 : Below w.heap.size w w1 := (by (repeat (first | (with_reducible refine Below.drew ?_) | (with_reducible refine below_drewN ?_ _) | (with_reducible refine Below.alloc ?_ (by first | omega | (simp; done) | (simp; omega) | (simp at *; omega)) _) | (with_reducible refine Below.setCell ?_ (by first | omega | (simp; done) | (simp; omega) | (simp at *; omega)) _) | (with_reducible exact Below.refl _ _) | (with_reducible assumption) | (with_reducible refine Below.trans ?_ (Below.mono (by assumption) (by first | omega | (simp; done) | (simp; omega) | (simp at *; omega)))))))
  clear hbc hbf hbw1
  go_wp2
  refine bodyPost_ret (v := .agg #[.int .i64 (1000 - o - h), .int .i64 h]) (by simp [results, Try.results93, go_sem, *]) rfl ⟨rfl, ?_⟩
  (repeat (first | (with_reducible refine Below.drew ?_) | (with_reducible refine below_drewN ?_ _) | (with_reducible refine Below.alloc ?_ (by first | omega | (simp; done) | (simp; omega) | (simp at *; omega)) _) | (with_reducible refine Below.setCell ?_ (by first | omega | (simp; done) | (simp; omega) | (simp at *; omega)) _) | (with_reducible exact Below.refl _ _) | (with_reducible assumption) | (with_reducible refine Below.trans ?_ (Below.mono (by assumption) (by first | omega | (simp; done) | (simp; omega) | (simp at *; omega))))))
end Go.Proofs.Ytbdiljbjddppcaa
