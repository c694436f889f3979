/- The walk of shotlinetop.TopNearer: it returns true. -/
import Derived.Test.YtfaodlcfjhnhbaaTNearA
import Derived.Test.YtfaodlcfjhnhbaaTMeetR
import Derived.Test.YtfaodlcfjhnhbaaTRefLeg
import Derived.Test.YtfaodlcfjhnhbaaTInts
import Derived.Test.YtfaodlcfjhnhbaaTMod
import Derived.Test.YtfaodlcfjhnhbaaMRefRoots
import Derived.Outline
namespace Go.Proofs.Ytfaodlcfjhnhbaa
open Go.ChangeShapes Go.WideShapes Go.ChangeAt Go.RowKit
set_option linter.unusedVariables false
set_option linter.unusedSimpArgs false
attribute [local go_sem ↓] Go.wp_at_zero Go.wp_at_succ
/-- The loads that are made of numbers. -/
def nlA (I : List Int) (k : Nat) : Int := modI (I.getD (2 * k) 0) 5000000
def nlB (I : List Int) (k : Nat) : Int := modI (I.getD (2 * k + 1) 0) 5000000
def nl (I : List Int) (k : Nat) : Ld := ⟨nlA I k, nlA I k, nlB I k, nlB I k⟩
def nlL (I : List Int) (n : Nat) : List Ld := (List.range n).map (nl I)
theorem getD_in {I : List Int} {x : Nat} (h : x < I.length) : I.getD x 0 = I[x] := by simp [h]
theorem nSurf_is (n : Int) (r : Bool) (w : World) (h : Hid (inB n 400 1100 = r)) : Calls Try.prog 16 #[.int .i64 n] w fun e w' => e = .returned (.bool r) ∧ w = w' := by
  rw [← h.out]
  go_enter Try.func16, Try.ntmps16
  go_wp2_with ((go_at_call 22; ((with_reducible refine (baseWithin_any _ _ _ _).mono ?_)); rintro e w' ⟨rfl, rfl⟩))
  go_ret
  exact ⟨rfl, rfl⟩
theorem nl_bd (I : List Int) (k : Nat) : (0 ≤ nlA I k ∧ nlA I k < 5000000) ∧ 0 ≤ nlB I k ∧ nlB I k < 5000000 := ⟨modI_bd _ (by omega), modI_bd _ (by omega)⟩
theorem nl_fit {T : List Cm} (ht : tabE T = 0) (I : List Int) : loadsE T (nlL I T.length) = 0 := by
  unfold loadsE
  rw [if_pos ht, if_pos (by simp [nlL])]
  refine fstE_z fun k hk => ?_
  have b := nl_bd I k
  simp only [nlL, List.getElem_map, List.getElem_range]
  show lodE (nlA I k) (nlA I k) (nlB I k) (nlB I k) = 0
  exact lodE_7 (inB_true b.1.1 (by omega)) (inB_true b.1.1 (by omega)) (inB_true b.2.1 (by omega)) (inB_true b.2.1 (by omega)) (by omega) (by omega)
theorem leg_stay {f t s o h : Int} (hl : legE f t s o h = 0) {s' : Int} (s0 : 0 ≤ s') (s1 : s' ≤ 100000) : legE f f s' o h = 0 := by
  obtain ⟨a, b, c, d⟩ := leg_of hl
  have e1 : inB f 400 31100 = true := inB_iff.2 a
  rw [legE_5 e1 e1 (inB_true s0 s1) d, if_neg (by intro k; exact k.2 rfl)]
set_option maxRecDepth 100000 in
set_option maxHeartbeats 4000000 in
theorem topNearer_big (T : List Cm) (A : Option Addr) (cap : Nat) (I : List Int) (C : Option Addr) (capi : Nat) (f t s o h : Int) (w : World) (hl : T.length ≤ 9223372036854775807) (hA : A = none → cap = 0) (hT : SlCm w A T) (hlI : I.length ≤ 9223372036854775807) (hC : C = none → capi = 0) (hI : SlIn w C I) (h4 : 4 < T.length) :
    Calls Try.prog 4 #[.slice A T.length cap, .slice C I.length capi, .agg #[.int .i64 f, .int .i64 t, .int .i64 s, .int .i64 o, .int .i64 h]] w fun e w' => e = .returned (.bool true) ∧ Below w.heap.size w w' := by
  have HT := Lib.hid hT
  have HI := Lib.hid hI
  clear hT hI hA hC
  have g4 : (4 : Int) < T.length := by omega
  go_enter Try.func4, Try.ntmps4
  go_wp2_with fail
  refine (enclosed_any _).mono ?_
  rintro e w1 ⟨rfl, hb1⟩
  have z1 := hb1.size
  try simp at z1
  have c1_0 : w1.cell? ⟨w.heap.size, 0, none⟩ = some (.int .i64 f) := by rw [(bcell hb1).1 _ _ (by first | (simp; done) | (simp; omega) | omega)]; simp [go_sem, World.cell?_alloc_past, *]
  have c1_1 : w1.cell? ⟨w.heap.size, 1, none⟩ = some (.int .i64 t) := by rw [(bcell hb1).1 _ _ (by first | (simp; done) | (simp; omega) | omega)]; simp [go_sem, World.cell?_alloc_past, *]
  have c1_2 : w1.cell? ⟨w.heap.size, 2, none⟩ = some (.int .i64 s) := by rw [(bcell hb1).1 _ _ (by first | (simp; done) | (simp; omega) | omega)]; simp [go_sem, World.cell?_alloc_past, *]
  have c1_3 : w1.cell? ⟨w.heap.size, 3, none⟩ = some (.int .i64 o) := by rw [(bcell hb1).1 _ _ (by first | (simp; done) | (simp; omega) | omega)]; simp [go_sem, World.cell?_alloc_past, *]
  have c1_4 : w1.cell? ⟨w.heap.size, 4, none⟩ = some (.int .i64 h) := by rw [(bcell hb1).1 _ _ (by first | (simp; done) | (simp; omega) | omega)]; simp [go_sem, World.cell?_alloc_past, *]
  have c1_f : ∀ j, w1.frozen? ⟨w.heap.size, j, none⟩ = false := fun j => by rw [(bcell hb1).2 _ _ (by first | (simp; done) | (simp; omega) | omega)]; simp [go_sem, *]
  have B1 : Below w.heap.size w w1 := (by (repeat (first | (with_reducible refine Below.drew ?_) | (with_reducible refine below_drewN ?_ _) | (with_reducible refine Below.alloc ?_ (by first | omega | (simp; done) | (simp; omega) | (simp at *; omega)) _) | (with_reducible refine Below.setCell ?_ (by first | omega | (simp; done) | (simp; omega) | (simp at *; omega)) _) | (with_reducible exact Below.refl _ _) | (with_reducible assumption) | (with_reducible refine Below.trans ?_ (Below.mono (by assumption) (by first | omega | (simp; done) | (simp; omega) | (simp at *; omega)))))))
  have o1 : w.heap.size < w1.heap.size := by omega
  have n1 : w1.heap.size ≠ w.heap.size := by omega
  clear hb1
  go_wp2
  go_ret
  exact ⟨by first | rfl | simp, B1⟩
set_option maxRecDepth 100000 in
set_option maxHeartbeats 4000000 in
theorem topNearer_tab (T : List Cm) (A : Option Addr) (cap : Nat) (I : List Int) (C : Option Addr) (capi : Nat) (f t s o h : Int) (w : World) (hl : T.length ≤ 9223372036854775807) (hA : A = none → cap = 0) (hT : SlCm w A T) (hlI : I.length ≤ 9223372036854775807) (hC : C = none → capi = 0) (hI : SlIn w C I) (h4 : T.length ≤ 4) (hz : tabE T ≠ 0) :
    Calls Try.prog 4 #[.slice A T.length cap, .slice C I.length capi, .agg #[.int .i64 f, .int .i64 t, .int .i64 s, .int .i64 o, .int .i64 h]] w fun e w' => e = .returned (.bool true) ∧ Below w.heap.size w w' := by
  have HT := Lib.hid hT
  have HI := Lib.hid hI
  clear hT hI hA hC
  have g4 : ¬ (4 : Int) < T.length := by omega
  obtain ⟨q, hq⟩ : ∃ z, Hid (tabE T = z) := ⟨_, Lib.hid rfl⟩
  have hzb : (q != 0) = true := by rw [← hq.out]; simpa using hz
  clear hz
  go_enter Try.func4, Try.ntmps4
  go_wp2_with fail
  refine (enclosed_any _).mono ?_
  rintro e w1 ⟨rfl, hb1⟩
  have z1 := hb1.size
  try simp at z1
  have c1_0 : w1.cell? ⟨w.heap.size, 0, none⟩ = some (.int .i64 f) := by rw [(bcell hb1).1 _ _ (by first | (simp; done) | (simp; omega) | omega)]; simp [go_sem, World.cell?_alloc_past, *]
  have c1_1 : w1.cell? ⟨w.heap.size, 1, none⟩ = some (.int .i64 t) := by rw [(bcell hb1).1 _ _ (by first | (simp; done) | (simp; omega) | omega)]; simp [go_sem, World.cell?_alloc_past, *]
  have c1_2 : w1.cell? ⟨w.heap.size, 2, none⟩ = some (.int .i64 s) := by rw [(bcell hb1).1 _ _ (by first | (simp; done) | (simp; omega) | omega)]; simp [go_sem, World.cell?_alloc_past, *]
  have c1_3 : w1.cell? ⟨w.heap.size, 3, none⟩ = some (.int .i64 o) := by rw [(bcell hb1).1 _ _ (by first | (simp; done) | (simp; omega) | omega)]; simp [go_sem, World.cell?_alloc_past, *]
  have c1_4 : w1.cell? ⟨w.heap.size, 4, none⟩ = some (.int .i64 h) := by rw [(bcell hb1).1 _ _ (by first | (simp; done) | (simp; omega) | omega)]; simp [go_sem, World.cell?_alloc_past, *]
  have c1_f : ∀ j, w1.frozen? ⟨w.heap.size, j, none⟩ = false := fun j => by rw [(bcell hb1).2 _ _ (by first | (simp; done) | (simp; omega) | omega)]; simp [go_sem, *]
  have B1 : Below w.heap.size w w1 := (by (repeat (first | (with_reducible refine Below.drew ?_) | (with_reducible refine below_drewN ?_ _) | (with_reducible refine Below.alloc ?_ (by first | omega | (simp; done) | (simp; omega) | (simp at *; omega)) _) | (with_reducible refine Below.setCell ?_ (by first | omega | (simp; done) | (simp; omega) | (simp at *; omega)) _) | (with_reducible exact Below.refl _ _) | (with_reducible assumption) | (with_reducible refine Below.trans ?_ (Below.mono (by assumption) (by first | omega | (simp; done) | (simp; omega) | (simp at *; omega)))))))
  have o1 : w.heap.size < w1.heap.size := by omega
  have n1 : w1.heap.size ≠ w.heap.size := by omega
  clear hb1
  go_wp2_with fail
  refine (refCheckTable_is T A cap q _ hl hq (HT.out.below (by exact (by (repeat (first | (with_reducible refine Below.drew ?_) | (with_reducible refine below_drewN ?_ _) | (with_reducible refine Below.alloc ?_ (by first | omega | (simp; done) | (simp; omega) | (simp at *; omega)) _) | (with_reducible refine Below.setCell ?_ (by first | omega | (simp; done) | (simp; omega) | (simp at *; omega)) _) | (with_reducible exact Below.refl _ _) | (with_reducible assumption) | (with_reducible refine Below.trans ?_ (Below.mono (by assumption) (by first | omega | (simp; done) | (simp; omega) | (simp at *; omega)))))))))).mono ?_
  rintro e w2 ⟨rfl, hb2⟩
  have z2 := hb2.size
  try simp at z2
  have c2_0 : w2.cell? ⟨w.heap.size, 0, none⟩ = some (.int .i64 f) := by rw [(bcell hb2).1 _ _ (by first | (simp; done) | (simp; omega) | omega)]; simp [go_sem, World.cell?_alloc_past, *]
  have c2_1 : w2.cell? ⟨w.heap.size, 1, none⟩ = some (.int .i64 t) := by rw [(bcell hb2).1 _ _ (by first | (simp; done) | (simp; omega) | omega)]; simp [go_sem, World.cell?_alloc_past, *]
  have c2_2 : w2.cell? ⟨w.heap.size, 2, none⟩ = some (.int .i64 s) := by rw [(bcell hb2).1 _ _ (by first | (simp; done) | (simp; omega) | omega)]; simp [go_sem, World.cell?_alloc_past, *]
  have c2_3 : w2.cell? ⟨w.heap.size, 3, none⟩ = some (.int .i64 o) := by rw [(bcell hb2).1 _ _ (by first | (simp; done) | (simp; omega) | omega)]; simp [go_sem, World.cell?_alloc_past, *]
  have c2_4 : w2.cell? ⟨w.heap.size, 4, none⟩ = some (.int .i64 h) := by rw [(bcell hb2).1 _ _ (by first | (simp; done) | (simp; omega) | omega)]; simp [go_sem, World.cell?_alloc_past, *]
  have c2_f : ∀ j, w2.frozen? ⟨w.heap.size, j, none⟩ = false := fun j => by rw [(bcell hb2).2 _ _ (by first | (simp; done) | (simp; omega) | omega)]; simp [go_sem, *]
  have B2 : Below w.heap.size w w2 := (by (repeat (first | (with_reducible refine Below.drew ?_) | (with_reducible refine below_drewN ?_ _) | (with_reducible refine Below.alloc ?_ (by first | omega | (simp; done) | (simp; omega) | (simp at *; omega)) _) | (with_reducible refine Below.setCell ?_ (by first | omega | (simp; done) | (simp; omega) | (simp at *; omega)) _) | (with_reducible exact Below.refl _ _) | (with_reducible assumption) | (with_reducible refine Below.trans ?_ (Below.mono (by assumption) (by first | omega | (simp; done) | (simp; omega) | (simp at *; omega)))))))
  have o2 : w.heap.size < w2.heap.size := by omega
  have n2 : w2.heap.size ≠ w.heap.size := by omega
  clear hb2 c1_0 c1_1 c1_2 c1_3 c1_4 c1_f B1 o1 n1
  go_wp2
  go_ret
  exact ⟨by first | rfl | simp, B2⟩
set_option maxRecDepth 100000 in
set_option maxHeartbeats 4000000 in
theorem topNearer_leg (T : List Cm) (A : Option Addr) (cap : Nat) (I : List Int) (C : Option Addr) (capi : Nat) (f t s o h : Int) (w : World) (hl : T.length ≤ 9223372036854775807) (hA : A = none → cap = 0) (hT : SlCm w A T) (hlI : I.length ≤ 9223372036854775807) (hC : C = none → capi = 0) (hI : SlIn w C I) (h4 : T.length ≤ 4) (hz0 : tabE T = 0) (hz : legE f t s o h ≠ 0) :
    Calls Try.prog 4 #[.slice A T.length cap, .slice C I.length capi, .agg #[.int .i64 f, .int .i64 t, .int .i64 s, .int .i64 o, .int .i64 h]] w fun e w' => e = .returned (.bool true) ∧ Below w.heap.size w w' := by
  have HT := Lib.hid hT
  have HI := Lib.hid hI
  clear hT hI hA hC
  have g4 : ¬ (4 : Int) < T.length := by omega
  have hq := Lib.hid hz0
  obtain ⟨g, hg⟩ : ∃ z, Hid (legE f t s o h = z) := ⟨_, Lib.hid rfl⟩
  have hzb : (g != 0) = true := by rw [← hg.out]; simpa using hz
  clear hz hz0
  go_enter Try.func4, Try.ntmps4
  go_wp2_with fail
  refine (enclosed_any _).mono ?_
  rintro e w1 ⟨rfl, hb1⟩
  have z1 := hb1.size
  try simp at z1
  have c1_0 : w1.cell? ⟨w.heap.size, 0, none⟩ = some (.int .i64 f) := by rw [(bcell hb1).1 _ _ (by first | (simp; done) | (simp; omega) | omega)]; simp [go_sem, World.cell?_alloc_past, *]
  have c1_1 : w1.cell? ⟨w.heap.size, 1, none⟩ = some (.int .i64 t) := by rw [(bcell hb1).1 _ _ (by first | (simp; done) | (simp; omega) | omega)]; simp [go_sem, World.cell?_alloc_past, *]
  have c1_2 : w1.cell? ⟨w.heap.size, 2, none⟩ = some (.int .i64 s) := by rw [(bcell hb1).1 _ _ (by first | (simp; done) | (simp; omega) | omega)]; simp [go_sem, World.cell?_alloc_past, *]
  have c1_3 : w1.cell? ⟨w.heap.size, 3, none⟩ = some (.int .i64 o) := by rw [(bcell hb1).1 _ _ (by first | (simp; done) | (simp; omega) | omega)]; simp [go_sem, World.cell?_alloc_past, *]
  have c1_4 : w1.cell? ⟨w.heap.size, 4, none⟩ = some (.int .i64 h) := by rw [(bcell hb1).1 _ _ (by first | (simp; done) | (simp; omega) | omega)]; simp [go_sem, World.cell?_alloc_past, *]
  have c1_f : ∀ j, w1.frozen? ⟨w.heap.size, j, none⟩ = false := fun j => by rw [(bcell hb1).2 _ _ (by first | (simp; done) | (simp; omega) | omega)]; simp [go_sem, *]
  have B1 : Below w.heap.size w w1 := (by (repeat (first | (with_reducible refine Below.drew ?_) | (with_reducible refine below_drewN ?_ _) | (with_reducible refine Below.alloc ?_ (by first | omega | (simp; done) | (simp; omega) | (simp at *; omega)) _) | (with_reducible refine Below.setCell ?_ (by first | omega | (simp; done) | (simp; omega) | (simp at *; omega)) _) | (with_reducible exact Below.refl _ _) | (with_reducible assumption) | (with_reducible refine Below.trans ?_ (Below.mono (by assumption) (by first | omega | (simp; done) | (simp; omega) | (simp at *; omega)))))))
  have o1 : w.heap.size < w1.heap.size := by omega
  have n1 : w1.heap.size ≠ w.heap.size := by omega
  clear hb1
  go_wp2_with fail
  refine (refCheckTable_is T A cap 0 _ hl hq (HT.out.below (by exact (by (repeat (first | (with_reducible refine Below.drew ?_) | (with_reducible refine below_drewN ?_ _) | (with_reducible refine Below.alloc ?_ (by first | omega | (simp; done) | (simp; omega) | (simp at *; omega)) _) | (with_reducible refine Below.setCell ?_ (by first | omega | (simp; done) | (simp; omega) | (simp at *; omega)) _) | (with_reducible exact Below.refl _ _) | (with_reducible assumption) | (with_reducible refine Below.trans ?_ (Below.mono (by assumption) (by first | omega | (simp; done) | (simp; omega) | (simp at *; omega)))))))))).mono ?_
  rintro e w2 ⟨rfl, hb2⟩
  have z2 := hb2.size
  try simp at z2
  have c2_0 : w2.cell? ⟨w.heap.size, 0, none⟩ = some (.int .i64 f) := by rw [(bcell hb2).1 _ _ (by first | (simp; done) | (simp; omega) | omega)]; simp [go_sem, World.cell?_alloc_past, *]
  have c2_1 : w2.cell? ⟨w.heap.size, 1, none⟩ = some (.int .i64 t) := by rw [(bcell hb2).1 _ _ (by first | (simp; done) | (simp; omega) | omega)]; simp [go_sem, World.cell?_alloc_past, *]
  have c2_2 : w2.cell? ⟨w.heap.size, 2, none⟩ = some (.int .i64 s) := by rw [(bcell hb2).1 _ _ (by first | (simp; done) | (simp; omega) | omega)]; simp [go_sem, World.cell?_alloc_past, *]
  have c2_3 : w2.cell? ⟨w.heap.size, 3, none⟩ = some (.int .i64 o) := by rw [(bcell hb2).1 _ _ (by first | (simp; done) | (simp; omega) | omega)]; simp [go_sem, World.cell?_alloc_past, *]
  have c2_4 : w2.cell? ⟨w.heap.size, 4, none⟩ = some (.int .i64 h) := by rw [(bcell hb2).1 _ _ (by first | (simp; done) | (simp; omega) | omega)]; simp [go_sem, World.cell?_alloc_past, *]
  have c2_f : ∀ j, w2.frozen? ⟨w.heap.size, j, none⟩ = false := fun j => by rw [(bcell hb2).2 _ _ (by first | (simp; done) | (simp; omega) | omega)]; simp [go_sem, *]
  have B2 : Below w.heap.size w w2 := (by (repeat (first | (with_reducible refine Below.drew ?_) | (with_reducible refine below_drewN ?_ _) | (with_reducible refine Below.alloc ?_ (by first | omega | (simp; done) | (simp; omega) | (simp at *; omega)) _) | (with_reducible refine Below.setCell ?_ (by first | omega | (simp; done) | (simp; omega) | (simp at *; omega)) _) | (with_reducible exact Below.refl _ _) | (with_reducible assumption) | (with_reducible refine Below.trans ?_ (Below.mono (by assumption) (by first | omega | (simp; done) | (simp; omega) | (simp at *; omega)))))))
  have o2 : w.heap.size < w2.heap.size := by omega
  have n2 : w2.heap.size ≠ w.heap.size := by omega
  clear hb2 c1_0 c1_1 c1_2 c1_3 c1_4 c1_f B1 o1 n1
  go_wp2_with fail
  refine (refCheckLeg_is f t s o h g _ hg).mono ?_
  rintro e w3 ⟨rfl, hb3⟩
  have z3 := hb3.size
  try simp at z3
  have c3_0 : w3.cell? ⟨w.heap.size, 0, none⟩ = some (.int .i64 f) := by rw [(bcell hb3).1 _ _ (by first | (simp; done) | (simp; omega) | omega)]; simp [go_sem, World.cell?_alloc_past, *]
  have c3_1 : w3.cell? ⟨w.heap.size, 1, none⟩ = some (.int .i64 t) := by rw [(bcell hb3).1 _ _ (by first | (simp; done) | (simp; omega) | omega)]; simp [go_sem, World.cell?_alloc_past, *]
  have c3_2 : w3.cell? ⟨w.heap.size, 2, none⟩ = some (.int .i64 s) := by rw [(bcell hb3).1 _ _ (by first | (simp; done) | (simp; omega) | omega)]; simp [go_sem, World.cell?_alloc_past, *]
  have c3_3 : w3.cell? ⟨w.heap.size, 3, none⟩ = some (.int .i64 o) := by rw [(bcell hb3).1 _ _ (by first | (simp; done) | (simp; omega) | omega)]; simp [go_sem, World.cell?_alloc_past, *]
  have c3_4 : w3.cell? ⟨w.heap.size, 4, none⟩ = some (.int .i64 h) := by rw [(bcell hb3).1 _ _ (by first | (simp; done) | (simp; omega) | omega)]; simp [go_sem, World.cell?_alloc_past, *]
  have c3_f : ∀ j, w3.frozen? ⟨w.heap.size, j, none⟩ = false := fun j => by rw [(bcell hb3).2 _ _ (by first | (simp; done) | (simp; omega) | omega)]; simp [go_sem, *]
  have B3 : Below w.heap.size w w3 := (by (repeat (first | (with_reducible refine Below.drew ?_) | (with_reducible refine below_drewN ?_ _) | (with_reducible refine Below.alloc ?_ (by first | omega | (simp; done) | (simp; omega) | (simp at *; omega)) _) | (with_reducible refine Below.setCell ?_ (by first | omega | (simp; done) | (simp; omega) | (simp at *; omega)) _) | (with_reducible exact Below.refl _ _) | (with_reducible assumption) | (with_reducible refine Below.trans ?_ (Below.mono (by assumption) (by first | omega | (simp; done) | (simp; omega) | (simp at *; omega)))))))
  have o3 : w.heap.size < w3.heap.size := by omega
  have n3 : w3.heap.size ≠ w.heap.size := by omega
  clear hb3 c2_0 c2_1 c2_2 c2_3 c2_4 c2_f B2 o2 n2
  go_wp2
  go_ret
  exact ⟨by first | rfl | simp, B3⟩
set_option maxRecDepth 100000 in
set_option maxHeartbeats 4000000 in
theorem topNearer_few (T : List Cm) (A : Option Addr) (cap : Nat) (I : List Int) (C : Option Addr) (capi : Nat) (f t s o h : Int) (w : World) (hl : T.length ≤ 9223372036854775807) (hA : A = none → cap = 0) (hT : SlCm w A T) (hlI : I.length ≤ 9223372036854775807) (hC : C = none → capi = 0) (hI : SlIn w C I) (h4 : T.length ≤ 4) (hz0 : tabE T = 0) (hz : legE f t s o h = 0) (hfew : I.length < 2 * T.length) :
    Calls Try.prog 4 #[.slice A T.length cap, .slice C I.length capi, .agg #[.int .i64 f, .int .i64 t, .int .i64 s, .int .i64 o, .int .i64 h]] w fun e w' => e = .returned (.bool true) ∧ Below w.heap.size w w' := by
  have HT := Lib.hid hT
  have HI := Lib.hid hI
  clear hT hI hA hC
  have g4 : ¬ (4 : Int) < T.length := by omega
  have gf : (I.length : Int) < 2 * T.length := by omega
  have hq := Lib.hid hz0
  have hg := Lib.hid hz
  clear hz hz0
  go_enter Try.func4, Try.ntmps4
  go_wp2_with fail
  refine (enclosed_any _).mono ?_
  rintro e w1 ⟨rfl, hb1⟩
  have z1 := hb1.size
  try simp at z1
  have c1_0 : w1.cell? ⟨w.heap.size, 0, none⟩ = some (.int .i64 f) := by rw [(bcell hb1).1 _ _ (by first | (simp; done) | (simp; omega) | omega)]; simp [go_sem, World.cell?_alloc_past, *]
  have c1_1 : w1.cell? ⟨w.heap.size, 1, none⟩ = some (.int .i64 t) := by rw [(bcell hb1).1 _ _ (by first | (simp; done) | (simp; omega) | omega)]; simp [go_sem, World.cell?_alloc_past, *]
  have c1_2 : w1.cell? ⟨w.heap.size, 2, none⟩ = some (.int .i64 s) := by rw [(bcell hb1).1 _ _ (by first | (simp; done) | (simp; omega) | omega)]; simp [go_sem, World.cell?_alloc_past, *]
  have c1_3 : w1.cell? ⟨w.heap.size, 3, none⟩ = some (.int .i64 o) := by rw [(bcell hb1).1 _ _ (by first | (simp; done) | (simp; omega) | omega)]; simp [go_sem, World.cell?_alloc_past, *]
  have c1_4 : w1.cell? ⟨w.heap.size, 4, none⟩ = some (.int .i64 h) := by rw [(bcell hb1).1 _ _ (by first | (simp; done) | (simp; omega) | omega)]; simp [go_sem, World.cell?_alloc_past, *]
  have c1_f : ∀ j, w1.frozen? ⟨w.heap.size, j, none⟩ = false := fun j => by rw [(bcell hb1).2 _ _ (by first | (simp; done) | (simp; omega) | omega)]; simp [go_sem, *]
  have B1 : Below w.heap.size w w1 := (by (repeat (first | (with_reducible refine Below.drew ?_) | (with_reducible refine below_drewN ?_ _) | (with_reducible refine Below.alloc ?_ (by first | omega | (simp; done) | (simp; omega) | (simp at *; omega)) _) | (with_reducible refine Below.setCell ?_ (by first | omega | (simp; done) | (simp; omega) | (simp at *; omega)) _) | (with_reducible exact Below.refl _ _) | (with_reducible assumption) | (with_reducible refine Below.trans ?_ (Below.mono (by assumption) (by first | omega | (simp; done) | (simp; omega) | (simp at *; omega)))))))
  have o1 : w.heap.size < w1.heap.size := by omega
  have n1 : w1.heap.size ≠ w.heap.size := by omega
  clear hb1
  go_wp2_with fail
  refine (refCheckTable_is T A cap 0 _ hl hq (HT.out.below (by exact (by (repeat (first | (with_reducible refine Below.drew ?_) | (with_reducible refine below_drewN ?_ _) | (with_reducible refine Below.alloc ?_ (by first | omega | (simp; done) | (simp; omega) | (simp at *; omega)) _) | (with_reducible refine Below.setCell ?_ (by first | omega | (simp; done) | (simp; omega) | (simp at *; omega)) _) | (with_reducible exact Below.refl _ _) | (with_reducible assumption) | (with_reducible refine Below.trans ?_ (Below.mono (by assumption) (by first | omega | (simp; done) | (simp; omega) | (simp at *; omega)))))))))).mono ?_
  rintro e w2 ⟨rfl, hb2⟩
  have z2 := hb2.size
  try simp at z2
  have c2_0 : w2.cell? ⟨w.heap.size, 0, none⟩ = some (.int .i64 f) := by rw [(bcell hb2).1 _ _ (by first | (simp; done) | (simp; omega) | omega)]; simp [go_sem, World.cell?_alloc_past, *]
  have c2_1 : w2.cell? ⟨w.heap.size, 1, none⟩ = some (.int .i64 t) := by rw [(bcell hb2).1 _ _ (by first | (simp; done) | (simp; omega) | omega)]; simp [go_sem, World.cell?_alloc_past, *]
  have c2_2 : w2.cell? ⟨w.heap.size, 2, none⟩ = some (.int .i64 s) := by rw [(bcell hb2).1 _ _ (by first | (simp; done) | (simp; omega) | omega)]; simp [go_sem, World.cell?_alloc_past, *]
  have c2_3 : w2.cell? ⟨w.heap.size, 3, none⟩ = some (.int .i64 o) := by rw [(bcell hb2).1 _ _ (by first | (simp; done) | (simp; omega) | omega)]; simp [go_sem, World.cell?_alloc_past, *]
  have c2_4 : w2.cell? ⟨w.heap.size, 4, none⟩ = some (.int .i64 h) := by rw [(bcell hb2).1 _ _ (by first | (simp; done) | (simp; omega) | omega)]; simp [go_sem, World.cell?_alloc_past, *]
  have c2_f : ∀ j, w2.frozen? ⟨w.heap.size, j, none⟩ = false := fun j => by rw [(bcell hb2).2 _ _ (by first | (simp; done) | (simp; omega) | omega)]; simp [go_sem, *]
  have B2 : Below w.heap.size w w2 := (by (repeat (first | (with_reducible refine Below.drew ?_) | (with_reducible refine below_drewN ?_ _) | (with_reducible refine Below.alloc ?_ (by first | omega | (simp; done) | (simp; omega) | (simp at *; omega)) _) | (with_reducible refine Below.setCell ?_ (by first | omega | (simp; done) | (simp; omega) | (simp at *; omega)) _) | (with_reducible exact Below.refl _ _) | (with_reducible assumption) | (with_reducible refine Below.trans ?_ (Below.mono (by assumption) (by first | omega | (simp; done) | (simp; omega) | (simp at *; omega)))))))
  have o2 : w.heap.size < w2.heap.size := by omega
  have n2 : w2.heap.size ≠ w.heap.size := by omega
  clear hb2 c1_0 c1_1 c1_2 c1_3 c1_4 c1_f B1 o1 n1
  go_wp2_with fail
  refine (refCheckLeg_is f t s o h 0 _ hg).mono ?_
  rintro e w3 ⟨rfl, hb3⟩
  have z3 := hb3.size
  try simp at z3
  have c3_0 : w3.cell? ⟨w.heap.size, 0, none⟩ = some (.int .i64 f) := by rw [(bcell hb3).1 _ _ (by first | (simp; done) | (simp; omega) | omega)]; simp [go_sem, World.cell?_alloc_past, *]
  have c3_1 : w3.cell? ⟨w.heap.size, 1, none⟩ = some (.int .i64 t) := by rw [(bcell hb3).1 _ _ (by first | (simp; done) | (simp; omega) | omega)]; simp [go_sem, World.cell?_alloc_past, *]
  have c3_2 : w3.cell? ⟨w.heap.size, 2, none⟩ = some (.int .i64 s) := by rw [(bcell hb3).1 _ _ (by first | (simp; done) | (simp; omega) | omega)]; simp [go_sem, World.cell?_alloc_past, *]
  have c3_3 : w3.cell? ⟨w.heap.size, 3, none⟩ = some (.int .i64 o) := by rw [(bcell hb3).1 _ _ (by first | (simp; done) | (simp; omega) | omega)]; simp [go_sem, World.cell?_alloc_past, *]
  have c3_4 : w3.cell? ⟨w.heap.size, 4, none⟩ = some (.int .i64 h) := by rw [(bcell hb3).1 _ _ (by first | (simp; done) | (simp; omega) | omega)]; simp [go_sem, World.cell?_alloc_past, *]
  have c3_f : ∀ j, w3.frozen? ⟨w.heap.size, j, none⟩ = false := fun j => by rw [(bcell hb3).2 _ _ (by first | (simp; done) | (simp; omega) | omega)]; simp [go_sem, *]
  have B3 : Below w.heap.size w w3 := (by (repeat (first | (with_reducible refine Below.drew ?_) | (with_reducible refine below_drewN ?_ _) | (with_reducible refine Below.alloc ?_ (by first | omega | (simp; done) | (simp; omega) | (simp at *; omega)) _) | (with_reducible refine Below.setCell ?_ (by first | omega | (simp; done) | (simp; omega) | (simp at *; omega)) _) | (with_reducible exact Below.refl _ _) | (with_reducible assumption) | (with_reducible refine Below.trans ?_ (Below.mono (by assumption) (by first | omega | (simp; done) | (simp; omega) | (simp at *; omega)))))))
  have o3 : w.heap.size < w3.heap.size := by omega
  have n3 : w3.heap.size ≠ w.heap.size := by omega
  clear hb3 c2_0 c2_1 c2_2 c2_3 c2_4 c2_f B2 o2 n2
  go_wp2
  go_ret
  exact ⟨by first | rfl | simp, B3⟩
set_option maxRecDepth 100000 in
set_option maxHeartbeats 4000000 in
theorem topNearer_long (T : List Cm) (A : Option Addr) (cap : Nat) (I : List Int) (C : Option Addr) (capi : Nat) (f t s o h : Int) (w : World) (hl : T.length ≤ 9223372036854775807) (hA : A = none → cap = 0) (hT : SlCm w A T) (hlI : I.length ≤ 9223372036854775807) (hC : C = none → capi = 0) (hI : SlIn w C I) (h4 : T.length ≤ 4) (hz0 : tabE T = 0) (hz : legE f t s o h = 0) (hfew : ¬ I.length < 2 * T.length) (hlong : 50000 < s) :
    Calls Try.prog 4 #[.slice A T.length cap, .slice C I.length capi, .agg #[.int .i64 f, .int .i64 t, .int .i64 s, .int .i64 o, .int .i64 h]] w fun e w' => e = .returned (.bool true) ∧ Below w.heap.size w w' := by
  have HT := Lib.hid hT
  have HI := Lib.hid hI
  clear hT hI hA hC
  have g4 : ¬ (4 : Int) < T.length := by omega
  have gf : ¬ (I.length : Int) < 2 * T.length := by omega
  have hq := Lib.hid hz0
  have hg := Lib.hid hz
  clear hz hz0
  go_enter Try.func4, Try.ntmps4
  go_wp2_with fail
  refine (enclosed_any _).mono ?_
  rintro e w1 ⟨rfl, hb1⟩
  have z1 := hb1.size
  try simp at z1
  have c1_0 : w1.cell? ⟨w.heap.size, 0, none⟩ = some (.int .i64 f) := by rw [(bcell hb1).1 _ _ (by first | (simp; done) | (simp; omega) | omega)]; simp [go_sem, World.cell?_alloc_past, *]
  have c1_1 : w1.cell? ⟨w.heap.size, 1, none⟩ = some (.int .i64 t) := by rw [(bcell hb1).1 _ _ (by first | (simp; done) | (simp; omega) | omega)]; simp [go_sem, World.cell?_alloc_past, *]
  have c1_2 : w1.cell? ⟨w.heap.size, 2, none⟩ = some (.int .i64 s) := by rw [(bcell hb1).1 _ _ (by first | (simp; done) | (simp; omega) | omega)]; simp [go_sem, World.cell?_alloc_past, *]
  have c1_3 : w1.cell? ⟨w.heap.size, 3, none⟩ = some (.int .i64 o) := by rw [(bcell hb1).1 _ _ (by first | (simp; done) | (simp; omega) | omega)]; simp [go_sem, World.cell?_alloc_past, *]
  have c1_4 : w1.cell? ⟨w.heap.size, 4, none⟩ = some (.int .i64 h) := by rw [(bcell hb1).1 _ _ (by first | (simp; done) | (simp; omega) | omega)]; simp [go_sem, World.cell?_alloc_past, *]
  have c1_f : ∀ j, w1.frozen? ⟨w.heap.size, j, none⟩ = false := fun j => by rw [(bcell hb1).2 _ _ (by first | (simp; done) | (simp; omega) | omega)]; simp [go_sem, *]
  have B1 : Below w.heap.size w w1 := (by (repeat (first | (with_reducible refine Below.drew ?_) | (with_reducible refine below_drewN ?_ _) | (with_reducible refine Below.alloc ?_ (by first | omega | (simp; done) | (simp; omega) | (simp at *; omega)) _) | (with_reducible refine Below.setCell ?_ (by first | omega | (simp; done) | (simp; omega) | (simp at *; omega)) _) | (with_reducible exact Below.refl _ _) | (with_reducible assumption) | (with_reducible refine Below.trans ?_ (Below.mono (by assumption) (by first | omega | (simp; done) | (simp; omega) | (simp at *; omega)))))))
  have o1 : w.heap.size < w1.heap.size := by omega
  have n1 : w1.heap.size ≠ w.heap.size := by omega
  clear hb1
  go_wp2_with fail
  refine (refCheckTable_is T A cap 0 _ hl hq (HT.out.below (by exact (by (repeat (first | (with_reducible refine Below.drew ?_) | (with_reducible refine below_drewN ?_ _) | (with_reducible refine Below.alloc ?_ (by first | omega | (simp; done) | (simp; omega) | (simp at *; omega)) _) | (with_reducible refine Below.setCell ?_ (by first | omega | (simp; done) | (simp; omega) | (simp at *; omega)) _) | (with_reducible exact Below.refl _ _) | (with_reducible assumption) | (with_reducible refine Below.trans ?_ (Below.mono (by assumption) (by first | omega | (simp; done) | (simp; omega) | (simp at *; omega)))))))))).mono ?_
  rintro e w2 ⟨rfl, hb2⟩
  have z2 := hb2.size
  try simp at z2
  have c2_0 : w2.cell? ⟨w.heap.size, 0, none⟩ = some (.int .i64 f) := by rw [(bcell hb2).1 _ _ (by first | (simp; done) | (simp; omega) | omega)]; simp [go_sem, World.cell?_alloc_past, *]
  have c2_1 : w2.cell? ⟨w.heap.size, 1, none⟩ = some (.int .i64 t) := by rw [(bcell hb2).1 _ _ (by first | (simp; done) | (simp; omega) | omega)]; simp [go_sem, World.cell?_alloc_past, *]
  have c2_2 : w2.cell? ⟨w.heap.size, 2, none⟩ = some (.int .i64 s) := by rw [(bcell hb2).1 _ _ (by first | (simp; done) | (simp; omega) | omega)]; simp [go_sem, World.cell?_alloc_past, *]
  have c2_3 : w2.cell? ⟨w.heap.size, 3, none⟩ = some (.int .i64 o) := by rw [(bcell hb2).1 _ _ (by first | (simp; done) | (simp; omega) | omega)]; simp [go_sem, World.cell?_alloc_past, *]
  have c2_4 : w2.cell? ⟨w.heap.size, 4, none⟩ = some (.int .i64 h) := by rw [(bcell hb2).1 _ _ (by first | (simp; done) | (simp; omega) | omega)]; simp [go_sem, World.cell?_alloc_past, *]
  have c2_f : ∀ j, w2.frozen? ⟨w.heap.size, j, none⟩ = false := fun j => by rw [(bcell hb2).2 _ _ (by first | (simp; done) | (simp; omega) | omega)]; simp [go_sem, *]
  have B2 : Below w.heap.size w w2 := (by (repeat (first | (with_reducible refine Below.drew ?_) | (with_reducible refine below_drewN ?_ _) | (with_reducible refine Below.alloc ?_ (by first | omega | (simp; done) | (simp; omega) | (simp at *; omega)) _) | (with_reducible refine Below.setCell ?_ (by first | omega | (simp; done) | (simp; omega) | (simp at *; omega)) _) | (with_reducible exact Below.refl _ _) | (with_reducible assumption) | (with_reducible refine Below.trans ?_ (Below.mono (by assumption) (by first | omega | (simp; done) | (simp; omega) | (simp at *; omega)))))))
  have o2 : w.heap.size < w2.heap.size := by omega
  have n2 : w2.heap.size ≠ w.heap.size := by omega
  clear hb2 c1_0 c1_1 c1_2 c1_3 c1_4 c1_f B1 o1 n1
  go_wp2_with fail
  refine (refCheckLeg_is f t s o h 0 _ hg).mono ?_
  rintro e w3 ⟨rfl, hb3⟩
  have z3 := hb3.size
  try simp at z3
  have c3_0 : w3.cell? ⟨w.heap.size, 0, none⟩ = some (.int .i64 f) := by rw [(bcell hb3).1 _ _ (by first | (simp; done) | (simp; omega) | omega)]; simp [go_sem, World.cell?_alloc_past, *]
  have c3_1 : w3.cell? ⟨w.heap.size, 1, none⟩ = some (.int .i64 t) := by rw [(bcell hb3).1 _ _ (by first | (simp; done) | (simp; omega) | omega)]; simp [go_sem, World.cell?_alloc_past, *]
  have c3_2 : w3.cell? ⟨w.heap.size, 2, none⟩ = some (.int .i64 s) := by rw [(bcell hb3).1 _ _ (by first | (simp; done) | (simp; omega) | omega)]; simp [go_sem, World.cell?_alloc_past, *]
  have c3_3 : w3.cell? ⟨w.heap.size, 3, none⟩ = some (.int .i64 o) := by rw [(bcell hb3).1 _ _ (by first | (simp; done) | (simp; omega) | omega)]; simp [go_sem, World.cell?_alloc_past, *]
  have c3_4 : w3.cell? ⟨w.heap.size, 4, none⟩ = some (.int .i64 h) := by rw [(bcell hb3).1 _ _ (by first | (simp; done) | (simp; omega) | omega)]; simp [go_sem, World.cell?_alloc_past, *]
  have c3_f : ∀ j, w3.frozen? ⟨w.heap.size, j, none⟩ = false := fun j => by rw [(bcell hb3).2 _ _ (by first | (simp; done) | (simp; omega) | omega)]; simp [go_sem, *]
  have B3 : Below w.heap.size w w3 := (by (repeat (first | (with_reducible refine Below.drew ?_) | (with_reducible refine below_drewN ?_ _) | (with_reducible refine Below.alloc ?_ (by first | omega | (simp; done) | (simp; omega) | (simp at *; omega)) _) | (with_reducible refine Below.setCell ?_ (by first | omega | (simp; done) | (simp; omega) | (simp at *; omega)) _) | (with_reducible exact Below.refl _ _) | (with_reducible assumption) | (with_reducible refine Below.trans ?_ (Below.mono (by assumption) (by first | omega | (simp; done) | (simp; omega) | (simp at *; omega)))))))
  have o3 : w.heap.size < w3.heap.size := by omega
  have n3 : w3.heap.size ≠ w.heap.size := by omega
  clear hb3 c2_0 c2_1 c2_2 c2_3 c2_4 c2_f B2 o2 n2
  go_wp2
  go_ret
  exact ⟨by first | rfl | simp, B3⟩
set_option maxRecDepth 100000 in
set_option maxHeartbeats 8000000 in
theorem topNearer_good (T : List Cm) (A : Option Addr) (cap : Nat) (I : List Int) (C : Option Addr) (capi : Nat) (f t s o h : Int) (w : World) (hl : T.length ≤ 9223372036854775807) (hA : A = none → cap = 0) (hT : SlCm w A T) (hlI : I.length ≤ 9223372036854775807) (hC : C = none → capi = 0) (hI : SlIn w C I) (h4 : T.length ≤ 4) (hz0 : tabE T = 0) (hz : legE f t s o h = 0) (hfew : ¬ I.length < 2 * T.length) (hlong : ¬ 50000 < s) :
    Calls Try.prog 4 #[.slice A T.length cap, .slice C I.length capi, .agg #[.int .i64 f, .int .i64 t, .int .i64 s, .int .i64 o, .int .i64 h]] w fun e w' => e = .returned (.bool true) ∧ Below w.heap.size w w' := by
  have HT := Lib.hid hT
  have HI := Lib.hid hI
  clear hT hI hA hC
  have g4 : ¬ (4 : Int) < T.length := by omega
  have gf : ¬ (I.length : Int) < 2 * T.length := by omega
  have hq := Lib.hid hz0
  have hg := Lib.hid hz
  obtain ⟨la, lb, lc, ld⟩ := leg_of hz
  obtain ⟨o0, o1, h0, h1, oh⟩ := gasE_z ld
  obtain ⟨PL, hPL⟩ : ∃ z, Hid (nlL I T.length = z) := ⟨_, Lib.hid rfl⟩
  have fL : Hid (loadsE T PL = 0) := Lib.hid (by rw [← hPL.out]; exact nl_fit hz0 I)
  have hF := Lib.hid (fit_of fL.out)
  have hg1 : Hid (legE f f s o h = 0) := Lib.hid (leg_stay hz lc.1 lc.2)
  have hg2 : Hid (legE f f (2 * s) o h = 0) := Lib.hid (leg_stay hz (by omega) (by omega))
  obtain ⟨N, hN⟩ : ∃ z, Hid ((1000 - o - h) * (f - 63) = z) := ⟨_, Lib.hid rfl⟩
  obtain ⟨M, hM⟩ : ∃ z, Hid (h * (f - 63) = z) := ⟨_, Lib.hid rfl⟩
  obtain ⟨s2, hs2⟩ : ∃ z, Hid (2 * s = z) := ⟨_, Lib.hid rfl⟩
  have ew1 : IntKind.i64.wrap (1000 - o) = 1000 - o := IntWalk.i64_in _ (by omega)
  have ew2 : IntKind.i64.wrap (1000 - o - h) = 1000 - o - h := IntWalk.i64_in _ (by omega)
  have ew3 : IntKind.i64.wrap (f - 63) = f - 63 := IntWalk.i64_in _ (by omega)
  have ew4 : IntKind.i64.wrap ((1000 - o - h) * (f - 63)) = N := by
    rw [← hN.out]
    have := brz_bd (N := 1000 - o - h) (p := f) (by omega) (by omega) la.1 la.2
    exact IntWalk.i64_in _ (by omega)
  have ew5 : IntKind.i64.wrap (h * (f - 63)) = M := by
    rw [← hM.out]
    have := brz_bd (N := h) (p := f) (by omega) (by omega) la.1 la.2
    exact IntWalk.i64_in _ (by omega)
  have ew6 : IntKind.i64.wrap (2 * s) = s2 := by rw [hs2.out]; exact IntWalk.i64_in _ (by have := hs2.out; omega)
  obtain ⟨PY, hPY⟩ : ∃ z, Hid (ldR f f s 3 o h T PL (stK s 3) = z) := ⟨_, Lib.hid rfl⟩
  obtain ⟨PZ, hPZ⟩ : ∃ z, Hid (ldR f f s2 3 o h T PL (stK s2 3) = z) := ⟨_, Lib.hid rfl⟩
  have hg2' : Hid (legE f f s2 o h = 0) := Lib.hid (by rw [← hs2.out]; exact hg2.out)
  have fY : Hid (loadsE T PY = 0) := Lib.hid (by rw [← hPY.out]; exact ldR_fit fL.out hg1.out (by omega) (Nat.le_refl _))
  have fZ : Hid (loadsE T PZ = 0) := Lib.hid (by rw [← hPZ.out]; exact ldR_fit fL.out hg2'.out (by omega) (Nat.le_refl _))
  have lY : Hid (PY.length = T.length) := Lib.hid (fit_of fY.out).len
  have lZ : Hid (PZ.length = T.length) := Lib.hid (fit_of fZ.out).len
  have lL : Hid (PL.length = T.length) := Lib.hid hF.out.len
  have HK : Hid (∀ k, k < T.length → ∃ a b y0 y1 y2 y3 z0 z1 z2 z3, PL.getD k default = ⟨a, a, b, b⟩ ∧ PY.getD k default = ⟨y0, y1, y2, y3⟩ ∧ PZ.getD k default = ⟨z0, z1, z2, z3⟩ ∧ (y0 ≤ y1 ∧ min a N ≤ y0 ∧ y1 ≤ max a N) ∧ (y2 ≤ y3 ∧ min b M ≤ y2 ∧ y3 ≤ max b M) ∧ (z0 ≤ z1 ∧ min a N ≤ z0 ∧ z1 ≤ max a N) ∧ (z2 ≤ z3 ∧ min b M ≤ z2 ∧ z3 ≤ max b M) ∧ (N ≤ a → z0 ≤ y1) ∧ (a < N → y0 ≤ z1)) := fun k hk => by
    have hTk := tb_of hF.out
    have pk : PL.getD k default = ⟨nlA I k, nlA I k, nlB I k, nlB I k⟩ := by
      rw [← hPL.out, getD_of (show k < (nlL I T.length).length by simpa [nlL] using hk)]
      simp [nlL, nl]
    have by1 := stay_between (f := f) (s := s) (o := o) (h := h) (n := 3) (P := PL) hTk lL.out lc.1 hk (by rw [pk]) (by rw [pk]) (stK s 3)
    have bz1 := stay_between (f := f) (s := s2) (o := o) (h := h) (n := 3) (P := PL) hTk lL.out (by have := hs2.out; omega) hk (by rw [pk]) (by rw [pk]) (stK s2 3)
    have fr := stay_far (f := f) (s := s) (o := o) (h := h) (n := 3) (P := PL) hTk lL.out lc.1 hk (by rw [pk])
    rw [hs2.out, hPY.out, hPZ.out, hN.out, pk] at fr
    rw [hPY.out, hN.out, hM.out, pk] at by1
    rw [hPZ.out, hN.out, hM.out, pk] at bz1
    have ky : k < PY.length := by rw [lY.out]; exact hk
    have kz : k < PZ.length := by rw [lZ.out]; exact hk
    have oy := ldord_of (fit_of fY.out) k ky
    have oz := ldord_of (fit_of fZ.out) k kz
    rw [← getD_of ky] at oy
    rw [← getD_of kz] at oz
    exact ⟨_, _, _, _, _, _, _, _, _, _, pk, rfl, rfl, ⟨oy.1, by1.1.1.1, by1.1.1.2⟩, ⟨oy.2, by1.2.1.1, by1.2.1.2⟩, ⟨oz.1, bz1.1.1.1, bz1.1.1.2⟩, ⟨oz.2, bz1.2.1.1, bz1.2.1.2⟩, fr.1, fr.2⟩
  have HR : Hid (o = 210 → h = 0 → 400 ≤ f → f ≤ 1100 → MeetL (rsR f s T PL) PY) := Lib.hid (fun e1 e2 _ _ => by
    rw [← hPY.out, e1, e2]; exact rest_meets hF.out lc.1)
  obtain ⟨i0, hi, hq0, hq1, hq2⟩ := info_parts infoLd
  have HIf := Lib.hid hi
  have HZ0 := Lib.hid hq0
  have HZ1 := Lib.hid hq1
  have HZ2 := Lib.hid hq2
  have hs0 : 0 ≤ s := lc.1
  have hs1 : s ≤ 50000 := by omega
  have hT4 : T.length ≤ 4 := h4
  have hI2 : 2 * T.length ≤ I.length := by omega
  have HLA := Lib.hid la
  clear hz hz0 la lb lc ld hi hq0 hq1 hq2 hfew hlong o0 o1 h0 h1 oh hg2
  go_enter Try.func4, Try.ntmps4
  go_wp2_with fail
  refine (enclosed_any _).mono ?_
  rintro e w1 ⟨rfl, hb1⟩
  have z1 := hb1.size
  try simp at z1
  have c1_0 : w1.cell? ⟨w.heap.size, 0, none⟩ = some (.int .i64 f) := by rw [(bcell hb1).1 _ _ (by first | (simp; done) | (simp; omega) | omega)]; simp [go_sem, World.cell?_alloc_past, *]
  have c1_1 : w1.cell? ⟨w.heap.size, 1, none⟩ = some (.int .i64 t) := by rw [(bcell hb1).1 _ _ (by first | (simp; done) | (simp; omega) | omega)]; simp [go_sem, World.cell?_alloc_past, *]
  have c1_2 : w1.cell? ⟨w.heap.size, 2, none⟩ = some (.int .i64 s) := by rw [(bcell hb1).1 _ _ (by first | (simp; done) | (simp; omega) | omega)]; simp [go_sem, World.cell?_alloc_past, *]
  have c1_3 : w1.cell? ⟨w.heap.size, 3, none⟩ = some (.int .i64 o) := by rw [(bcell hb1).1 _ _ (by first | (simp; done) | (simp; omega) | omega)]; simp [go_sem, World.cell?_alloc_past, *]
  have c1_4 : w1.cell? ⟨w.heap.size, 4, none⟩ = some (.int .i64 h) := by rw [(bcell hb1).1 _ _ (by first | (simp; done) | (simp; omega) | omega)]; simp [go_sem, World.cell?_alloc_past, *]
  have c1_f : ∀ j, w1.frozen? ⟨w.heap.size, j, none⟩ = false := fun j => by rw [(bcell hb1).2 _ _ (by first | (simp; done) | (simp; omega) | omega)]; simp [go_sem, *]
  have B1 : Below w.heap.size w w1 := (by (repeat (first | (with_reducible refine Below.drew ?_) | (with_reducible refine below_drewN ?_ _) | (with_reducible refine Below.alloc ?_ (by first | omega | (simp; done) | (simp; omega) | (simp at *; omega)) _) | (with_reducible refine Below.setCell ?_ (by first | omega | (simp; done) | (simp; omega) | (simp at *; omega)) _) | (with_reducible exact Below.refl _ _) | (with_reducible assumption) | (with_reducible refine Below.trans ?_ (Below.mono (by assumption) (by first | omega | (simp; done) | (simp; omega) | (simp at *; omega)))))))
  have o1 : w.heap.size < w1.heap.size := by omega
  have n1 : w1.heap.size ≠ w.heap.size := by omega
  clear hb1
  go_wp2_with fail
  refine (refCheckTable_is T A cap 0 _ hl hq (HT.out.below (by exact (by (repeat (first | (with_reducible refine Below.drew ?_) | (with_reducible refine below_drewN ?_ _) | (with_reducible refine Below.alloc ?_ (by first | omega | (simp; done) | (simp; omega) | (simp at *; omega)) _) | (with_reducible refine Below.setCell ?_ (by first | omega | (simp; done) | (simp; omega) | (simp at *; omega)) _) | (with_reducible exact Below.refl _ _) | (with_reducible assumption) | (with_reducible refine Below.trans ?_ (Below.mono (by assumption) (by first | omega | (simp; done) | (simp; omega) | (simp at *; omega)))))))))).mono ?_
  rintro e w2 ⟨rfl, hb2⟩
  have z2 := hb2.size
  try simp at z2
  have c2_0 : w2.cell? ⟨w.heap.size, 0, none⟩ = some (.int .i64 f) := by rw [(bcell hb2).1 _ _ (by first | (simp; done) | (simp; omega) | omega)]; simp [go_sem, World.cell?_alloc_past, *]
  have c2_1 : w2.cell? ⟨w.heap.size, 1, none⟩ = some (.int .i64 t) := by rw [(bcell hb2).1 _ _ (by first | (simp; done) | (simp; omega) | omega)]; simp [go_sem, World.cell?_alloc_past, *]
  have c2_2 : w2.cell? ⟨w.heap.size, 2, none⟩ = some (.int .i64 s) := by rw [(bcell hb2).1 _ _ (by first | (simp; done) | (simp; omega) | omega)]; simp [go_sem, World.cell?_alloc_past, *]
  have c2_3 : w2.cell? ⟨w.heap.size, 3, none⟩ = some (.int .i64 o) := by rw [(bcell hb2).1 _ _ (by first | (simp; done) | (simp; omega) | omega)]; simp [go_sem, World.cell?_alloc_past, *]
  have c2_4 : w2.cell? ⟨w.heap.size, 4, none⟩ = some (.int .i64 h) := by rw [(bcell hb2).1 _ _ (by first | (simp; done) | (simp; omega) | omega)]; simp [go_sem, World.cell?_alloc_past, *]
  have c2_f : ∀ j, w2.frozen? ⟨w.heap.size, j, none⟩ = false := fun j => by rw [(bcell hb2).2 _ _ (by first | (simp; done) | (simp; omega) | omega)]; simp [go_sem, *]
  have B2 : Below w.heap.size w w2 := (by (repeat (first | (with_reducible refine Below.drew ?_) | (with_reducible refine below_drewN ?_ _) | (with_reducible refine Below.alloc ?_ (by first | omega | (simp; done) | (simp; omega) | (simp at *; omega)) _) | (with_reducible refine Below.setCell ?_ (by first | omega | (simp; done) | (simp; omega) | (simp at *; omega)) _) | (with_reducible exact Below.refl _ _) | (with_reducible assumption) | (with_reducible refine Below.trans ?_ (Below.mono (by assumption) (by first | omega | (simp; done) | (simp; omega) | (simp at *; omega)))))))
  have o2 : w.heap.size < w2.heap.size := by omega
  have n2 : w2.heap.size ≠ w.heap.size := by omega
  clear hb2 c1_0 c1_1 c1_2 c1_3 c1_4 c1_f B1 o1 n1
  go_wp2_with fail
  refine (refCheckLeg_is f t s o h 0 _ hg).mono ?_
  rintro e w3 ⟨rfl, hb3⟩
  have z3 := hb3.size
  try simp at z3
  have c3_0 : w3.cell? ⟨w.heap.size, 0, none⟩ = some (.int .i64 f) := by rw [(bcell hb3).1 _ _ (by first | (simp; done) | (simp; omega) | omega)]; simp [go_sem, World.cell?_alloc_past, *]
  have c3_1 : w3.cell? ⟨w.heap.size, 1, none⟩ = some (.int .i64 t) := by rw [(bcell hb3).1 _ _ (by first | (simp; done) | (simp; omega) | omega)]; simp [go_sem, World.cell?_alloc_past, *]
  have c3_2 : w3.cell? ⟨w.heap.size, 2, none⟩ = some (.int .i64 s) := by rw [(bcell hb3).1 _ _ (by first | (simp; done) | (simp; omega) | omega)]; simp [go_sem, World.cell?_alloc_past, *]
  have c3_3 : w3.cell? ⟨w.heap.size, 3, none⟩ = some (.int .i64 o) := by rw [(bcell hb3).1 _ _ (by first | (simp; done) | (simp; omega) | omega)]; simp [go_sem, World.cell?_alloc_past, *]
  have c3_4 : w3.cell? ⟨w.heap.size, 4, none⟩ = some (.int .i64 h) := by rw [(bcell hb3).1 _ _ (by first | (simp; done) | (simp; omega) | omega)]; simp [go_sem, World.cell?_alloc_past, *]
  have c3_f : ∀ j, w3.frozen? ⟨w.heap.size, j, none⟩ = false := fun j => by rw [(bcell hb3).2 _ _ (by first | (simp; done) | (simp; omega) | omega)]; simp [go_sem, *]
  have B3 : Below w.heap.size w w3 := (by (repeat (first | (with_reducible refine Below.drew ?_) | (with_reducible refine below_drewN ?_ _) | (with_reducible refine Below.alloc ?_ (by first | omega | (simp; done) | (simp; omega) | (simp at *; omega)) _) | (with_reducible refine Below.setCell ?_ (by first | omega | (simp; done) | (simp; omega) | (simp at *; omega)) _) | (with_reducible exact Below.refl _ _) | (with_reducible assumption) | (with_reducible refine Below.trans ?_ (Below.mono (by assumption) (by first | omega | (simp; done) | (simp; omega) | (simp at *; omega)))))))
  have o3 : w.heap.size < w3.heap.size := by omega
  have n3 : w3.heap.size ≠ w.heap.size := by omega
  clear hb3 c2_0 c2_1 c2_2 c2_3 c2_4 c2_f B2 o2 n2
  go_upto_region 6 with (fail)
  generalize hw4 : w3.setCell ⟨w.heap.size, 1, none⟩ (.int .i64 f) = w4
  have j0 : w4.cell? ⟨w.heap.size, 0, none⟩ = some (.int .i64 f) := by rw [← hw4]; exact (cell_off (Or.inr (by omega))).trans c3_0
  have j1 : w4.cell? ⟨w.heap.size, 1, none⟩ = some (.int .i64 f) := by rw [← hw4]; exact cell_same c3_1
  have j2 : w4.cell? ⟨w.heap.size, 2, none⟩ = some (.int .i64 s) := by rw [← hw4]; exact (cell_off (Or.inr (by omega))).trans c3_2
  have j3 : w4.cell? ⟨w.heap.size, 3, none⟩ = some (.int .i64 o) := by rw [← hw4]; exact (cell_off (Or.inr (by omega))).trans c3_3
  have j4 : w4.cell? ⟨w.heap.size, 4, none⟩ = some (.int .i64 h) := by rw [← hw4]; exact (cell_off (Or.inr (by omega))).trans c3_4
  have jo : w.heap.size < w4.heap.size := by rw [← hw4, size_set]; exact o3
  have jB : Below w.heap.size w w4 := by rw [← hw4]; exact B3.setCell (p := ⟨w.heap.size, 1, none⟩) (Nat.le_refl _) _
  clear hw4 c3_0 c3_1 c3_2 c3_3 c3_4 c3_f B3 o3 n3
  have HJ := Lib.hid (And.intro j0 (And.intro j1 (And.intro j2 (And.intro j3 (And.intro j4 (And.intro jo jB))))))
  go_cut [7, 8] from 21 (fun s7 s8 wx => s7 = .int .i64 N ∧ s8 = .int .i64 M ∧ Below w4.heap.size w4 wx)
  case first =>
    go_region_held3 (fun w' => w'.cell? ⟨w.heap.size, 0, none⟩ = some (.int .i64 f) ∧ w'.cell? ⟨w.heap.size, 3, none⟩ = some (.int .i64 o) ∧ w'.cell? ⟨w.heap.size, 4, none⟩ = some (.int .i64 h)) (simp [go_sem, *]) (fail)
    go_wp2_with fail
    go_meet
    exact ⟨rfl, rfl, (Below.refl _ _).drew⟩
  case rest =>
  obtain ⟨rfl, rfl, hbc⟩ := hcut
  obtain ⟨w5, hw5⟩ : ∃ V, V = wc := ⟨_, rfl⟩
  rw [← hw5] at hbc
  rw [← hw5]
  have HJ5 : Hid (w5.cell? ⟨w.heap.size, 0, none⟩ = some (.int .i64 f) ∧ w5.cell? ⟨w.heap.size, 1, none⟩ = some (.int .i64 f) ∧ w5.cell? ⟨w.heap.size, 2, none⟩ = some (.int .i64 s) ∧ w5.cell? ⟨w.heap.size, 3, none⟩ = some (.int .i64 o) ∧ w5.cell? ⟨w.heap.size, 4, none⟩ = some (.int .i64 h) ∧ w.heap.size < w5.heap.size ∧ Below w.heap.size w w5) := Lib.hid ⟨(hbc.cell (p := ⟨w.heap.size, 0, none⟩) jo).trans j0, (hbc.cell (p := ⟨w.heap.size, 1, none⟩) jo).trans j1, (hbc.cell (p := ⟨w.heap.size, 2, none⟩) jo).trans j2, (hbc.cell (p := ⟨w.heap.size, 3, none⟩) jo).trans j3, (hbc.cell (p := ⟨w.heap.size, 4, none⟩) jo).trans j4, Nat.lt_of_lt_of_le jo hbc.size, jB.trans (hbc.mono jB.size)⟩
  clear hw5 hbc j0 j1 j2 j3 j4 jo jB HJ ew1 ew2 ew3 ew4 ew5
  go_wp2_with fail
  go_loopw [9, 10] (fun v i wr => ∃ k : Nat, k ≤ T.length ∧ i = .int .i64 k ∧ Hid (wr.ownsRow w5.heap.size 49 4 v k (lcs (nlL I k))) ∧ Below w5.heap.size w5 wr) (fun _ i _ => T.length - (intOf i).toNat)
  case atStart => exact ⟨0, by omega, rfl, World.ownsRow_nil _ _ _ _, Below.refl _ _⟩
  case round =>
    obtain ⟨k, hk, rfl, HO, hB⟩ := hrel
    have sz := hB.size
    by_cases hkl : k < T.length
    · have hkl2 : (k : Int) < T.length := by omega
      have BW : Below w.heap.size w wr := HJ5.out.2.2.2.2.2.2.trans (hB.mono HJ5.out.2.2.2.2.2.2.size)
      rcases (HI.out.below BW : SlIn wr C I) with hnil | ⟨ib, io, hCC, ilt, IL⟩
      · rw [hnil] at hI2; simp at hI2; omega
      subst hCC
      obtain ⟨x2, hx2⟩ : ∃ z : Nat, Hid (2 * k = z) := ⟨_, Lib.hid rfl⟩
      obtain ⟨x3, hx3⟩ : ∃ z : Nat, Hid (2 * k + 1 = z) := ⟨_, Lib.hid rfl⟩
      have lx2 : x2 < I.length := by rw [← hx2.out]; omega
      have lx3 : x3 < I.length := by rw [← hx3.out]; omega
      have lx2' : (x2 : Int) < I.length := by omega
      have lx3' : (x3 : Int) < I.length := by omega
      have fw2 : IntKind.i64.wrap (2 * (k : Int)) = (x2 : Int) := by rw [← hx2.out]; exact (IntWalk.i64_in _ (by omega)).trans (by omega)
      have fw3 : IntKind.i64.wrap ((x2 : Int) + 1) = (x3 : Int) := by rw [← hx3.out, ← hx2.out]; exact (IntWalk.i64_in _ (by omega)).trans (by omega)
      have c2 := IL x2 lx2
      have c3 := IL x3 lx3
      obtain ⟨p2, hp2⟩ : ∃ z, Hid (I[x2] = z) := ⟨_, Lib.hid rfl⟩
      obtain ⟨p3, hp3⟩ : ∃ z, Hid (I[x3] = z) := ⟨_, Lib.hid rfl⟩
      rw [hp2.out] at c2
      rw [hp3.out] at c3
      obtain ⟨a, ha⟩ : ∃ z, Hid (modI p2 5000000 = z) := ⟨_, Lib.hid rfl⟩
      obtain ⟨b, hb⟩ : ∃ z, Hid (modI p3 5000000 = z) := ⟨_, Lib.hid rfl⟩
      have HN : Hid (lcs (nlL I (k + 1)) = lcs (nlL I k) ++ [.int .i64 a, .int .i64 a, .int .i64 b, .int .i64 b]) := by
        have ea : nlA I k = a := by rw [← ha.out, ← hp2.out, nlA, hx2.out, getD_in lx2]
        have eb : nlB I k = b := by rw [← hb.out, ← hp3.out, nlB, hx3.out, getD_in lx3]
        show _ = _
        unfold nlL
        rw [lcs_mapq]
        simp only [nl]
        rw [ea, eb]
      have HBW := Lib.hid BW
      clear IL hx2 hx3 hp2 hp3 BW
      go_upto_region 11 with (fail)
      go_cut [11, 12] from 71 to 99 (fun s11 s12 wx => s11 = .int .i64 a ∧ s12 = .int .i64 b ∧ Below wr.heap.size wr wx)
      case first =>
        refine wp_region_held_drew (S := (fun w' => w'.cell? ⟨ib, io + x2, none⟩ = some (.int .i64 p2) ∧ w'.cell? ⟨ib, io + x3, none⟩ = some (.int .i64 p3))) (by kernel_rfl) (by simp [go_sem, *]) (fun hHeld => ?_)
        refine wpAnyH_take (i := 0) (oi := ⟨some 77, _, _, _, _, _⟩) (v := ?_) rfl (by kernel_rfl) (by kernel_rfl) (by kernel_rfl) (fun _ _ _ h => h) (Or.inl ⟨by kernel_rfl, ?_⟩) (by assumption) ?_
        rotate_left
        · (intro w hSw; (try dsimp only at hSw); go_simp; all_goals with_reducible rfl)
        try simp only [Act.put, List.setIfInBounds_toArray, List.set_cons_zero, List.set_cons_succ]
        refine wpAnyH_take (i := 1) (oi := ⟨some 78, _, _, _, _, _⟩) (v := ?_) rfl (by kernel_rfl) (by kernel_rfl) (by kernel_rfl) (fun _ _ _ h => h) (Or.inl ⟨by kernel_rfl, ?_⟩) (by assumption) ?_
        rotate_left
        · (intro w hSw; (try dsimp only at hSw); go_simp; all_goals with_reducible rfl)
        try simp only [Act.put, List.setIfInBounds_toArray, List.set_cons_zero, List.set_cons_succ]
        refine wpAnyH_take (i := 2) (oi := ⟨some 79, _, _, _, _, _⟩) (v := ?_) rfl (by kernel_rfl) (by kernel_rfl) (by kernel_rfl) (fun _ _ _ h => h) (Or.inl ⟨by kernel_rfl, ?_⟩) (by assumption) ?_
        rotate_left
        · (intro w hSw; (try dsimp only at hSw); go_simp; all_goals with_reducible rfl)
        try simp only [Act.put, List.setIfInBounds_toArray, List.set_cons_zero, List.set_cons_succ]
        refine wpAnyH_take (i := 3) (oi := ⟨some 80, _, _, _, _, _⟩) (v := ?_) rfl (by kernel_rfl) (by kernel_rfl) (by kernel_rfl) (fun _ _ _ h => h) (Or.inl ⟨by kernel_rfl, ?_⟩) (by assumption) ?_
        rotate_left
        · (intro w hSw; (try dsimp only at hSw); go_simp; all_goals with_reducible rfl)
        try simp only [Act.put, List.setIfInBounds_toArray, List.set_cons_zero, List.set_cons_succ]
        refine wpAnyH_take (i := 4) (oi := ⟨some 81, _, _, _, _, _⟩) (v := ?_) rfl (by kernel_rfl) (by kernel_rfl) (by kernel_rfl) (fun _ _ _ h => h) (Or.inl ⟨by kernel_rfl, ?_⟩) (by assumption) ?_
        rotate_left
        · (intro w hSw; (try dsimp only at hSw); go_simp; all_goals with_reducible rfl)
        try simp only [Act.put, List.setIfInBounds_toArray, List.set_cons_zero, List.set_cons_succ]
        refine wpAnyH_take (i := 6) (oi := ⟨some 83, _, _, _, _, _⟩) (v := ?_) rfl (by kernel_rfl) (by kernel_rfl) (by kernel_rfl) (fun _ _ _ h => h) (Or.inl ⟨by kernel_rfl, ?_⟩) (by assumption) ?_
        rotate_left
        · (intro w hSw; (try dsimp only at hSw); go_simp; all_goals with_reducible rfl)
        try simp only [Act.put, List.setIfInBounds_toArray, List.set_cons_zero, List.set_cons_succ]
        refine wpAnyH_take (i := 7) (oi := ⟨some 84, _, _, _, _, _⟩) (v := ?_) rfl (by kernel_rfl) (by kernel_rfl) (by kernel_rfl) (fun _ _ _ h => h) (Or.inl ⟨by kernel_rfl, ?_⟩) (by assumption) ?_
        rotate_left
        · (intro w hSw; (try dsimp only at hSw); go_simp; all_goals with_reducible rfl)
        try simp only [Act.put, List.setIfInBounds_toArray, List.set_cons_zero, List.set_cons_succ]
        refine wpAnyH_take (i := 8) (oi := ⟨some 85, _, _, _, _, _⟩) (v := ?_) rfl (by kernel_rfl) (by kernel_rfl) (by kernel_rfl) (fun _ _ _ h => h) (Or.inl ⟨by kernel_rfl, ?_⟩) (by assumption) ?_
        rotate_left
        · (intro w hSw; (try dsimp only at hSw); go_simp; all_goals with_reducible rfl)
        try simp only [Act.put, List.setIfInBounds_toArray, List.set_cons_zero, List.set_cons_succ]
        refine wpAnyH_take (i := 9) (oi := ⟨some 86, _, _, _, _, _⟩) (v := ?_) rfl (by kernel_rfl) (by kernel_rfl) (by kernel_rfl) (fun _ _ _ h => h) (Or.inl ⟨by kernel_rfl, ?_⟩) (by assumption) ?_
        rotate_left
        · (intro w hSw; (try dsimp only at hSw); go_simp; all_goals with_reducible rfl)
        try simp only [Act.put, List.setIfInBounds_toArray, List.set_cons_zero, List.set_cons_succ]
        refine wpAnyH_take (i := 10) (oi := ⟨some 87, _, _, _, _, _⟩) (v := ?_) rfl (by kernel_rfl) (by kernel_rfl) (by kernel_rfl) (fun _ _ _ h => h) (Or.inl ⟨by kernel_rfl, ?_⟩) (by assumption) ?_
        rotate_left
        · (intro w hSw; (try dsimp only at hSw); go_simp; all_goals with_reducible rfl)
        try simp only [Act.put, List.setIfInBounds_toArray, List.set_cons_zero, List.set_cons_succ]
        refine wpAnyH_take (i := 11) (oi := ⟨some 88, _, _, _, _, _⟩) (v := ?_) rfl (by kernel_rfl) (by kernel_rfl) (by kernel_rfl) (fun _ _ _ h => h) (Or.inl ⟨by kernel_rfl, ?_⟩) (by assumption) ?_
        rotate_left
        · (intro w hSw; (try dsimp only at hSw); go_simp; all_goals with_reducible rfl)
        try simp only [Act.put, List.setIfInBounds_toArray, List.set_cons_zero, List.set_cons_succ]
        refine wpAnyH_ready (rs := [5]) (by kernel_rfl) (by simp) ?_
        refine AllReadyH.cons rfl (fun K hK => ?_) (AllReadyH.nil)
        go_simp
        refine (Mod_is p2 5000000 a _ (by omega) (by omega) ha).mono ?_
        rintro e v1 ⟨rfl, rfl⟩
        go_wp2_with fail
        refine hK.out _ _ (by simp [go_sem, *]) (fun hHeld => ?_)
        clear hK K
        try simp only [Act.put, List.setIfInBounds_toArray, List.set_cons_zero, List.set_cons_succ]
        refine wpAnyH_ready (rs := [12]) (by kernel_rfl) (by simp) ?_
        refine AllReadyH.cons rfl (fun K hK => ?_) (AllReadyH.nil)
        go_simp
        refine (Mod_is p3 5000000 b _ (by omega) (by omega) hb).mono ?_
        rintro e v1 ⟨rfl, rfl⟩
        go_wp2_with fail
        refine hK.out _ _ (by simp [go_sem, *]) (fun hHeld => ?_)
        clear hK K
        try simp only [Act.put, List.setIfInBounds_toArray, List.set_cons_zero, List.set_cons_succ]
        refine wpAnyH_take (i := 13) (oi := ⟨some 11, _, _, _, _, _⟩) (v := ?_) rfl (by kernel_rfl) (by kernel_rfl) (by kernel_rfl) (fun _ _ _ h => h) (Or.inl ⟨by kernel_rfl, ?_⟩) (by assumption) ?_
        rotate_left
        · (intro w hSw; (try dsimp only at hSw); go_simp; all_goals with_reducible rfl)
        try simp only [Act.put, List.setIfInBounds_toArray, List.set_cons_zero, List.set_cons_succ]
        refine wpAnyH_take (i := 14) (oi := ⟨some 12, _, _, _, _, _⟩) (v := ?_) rfl (by kernel_rfl) (by kernel_rfl) (by kernel_rfl) (fun _ _ _ h => h) (Or.inl ⟨by kernel_rfl, ?_⟩) (by assumption) ?_
        rotate_left
        · (intro w hSw; (try dsimp only at hSw); go_simp; all_goals with_reducible rfl)
        try simp only [Act.put, List.setIfInBounds_toArray, List.set_cons_zero, List.set_cons_succ]
        refine wpAnyH_done (by kernel_rfl) ?_ _
        go_wp2_with fail
        go_meet
        exact ⟨rfl, rfl, (Below.refl _ _).drew⟩
      case rest =>
      obtain ⟨rfl, rfl, hbc⟩ := hcut
      obtain ⟨w9, hw9⟩ : ∃ V, V = wc := ⟨_, rfl⟩
      rw [← hw9] at hbc
      rw [← hw9]
      have HO9 : Hid (w9.ownsRow w5.heap.size 49 4 _ k (lcs (nlL I k))) := own_below HO.out hbc (Nat.le_refl _)
      have hB59 : Below w5.heap.size w5 w9 := hB.trans (hbc.mono sz)
      have sz9 : w5.heap.size ≤ w9.heap.size := hB59.size
      clear hw9 hbc HO c2 c3 fw2 fw3 lx2' lx3' ha hb
      go_wp2_with (at_builtin; go_loud (refine wpList_append_own_at _ rfl _ _ 23 rfl w5.heap.size 49 i0 (.agg #[.int .i64 0, .int .i64 0, .int .i64 0, .int .i64 0]) 4 32 Try.underlying23 HIf.out HZ0.out HZ1.out HZ2.out rfl (by decide) _ _ _ rfl (HO9.out.alloc _) ⟨w9.heap.size, 0, none⟩ 1 1 [.int .i64 a, .int .i64 a, .int .i64 b, .int .i64 b] rfl rfl ?c0 ?c1 ?c2 ?c3 ?c4 ?_))
      case c0 =>
        intro j u hj
        match j, hj with
        | 0, hj => simp at hj; subst hj; simp [Addr.add, go_sem]
        | 1, hj => simp at hj; subst hj; simp [Addr.add, go_sem]
        | 2, hj => simp at hj; subst hj; simp [Addr.add, go_sem]
        | 3, hj => simp at hj; subst hj; simp [Addr.add, go_sem]
      case c1 => intro u hu; simp at hu; rcases hu with rfl | rfl | rfl | rfl <;> rfl
      case c2 => unfold maxLen; omega
      case c3 => omega
      case c4 => simp; omega
      intro v' wa hown hgrow hnn hblk
      have hBa : Below w5.heap.size w5 wa := hB59.trans (((Below.refl w5.heap.size w9).alloc (by omega) _).grown hgrow (by simp; omega) (own_block1 HO9.out))
      have HOW2 : Hid (wa.ownsRow w5.heap.size 49 4 v' (k + 1) (lcs (nlL I (k + 1)))) := by
        show World.ownsRow _ _ _ _ _ _ _
        rw [HN.out]
        exact hown
      clear hown hgrow hnn hblk HO9 hB59
      go_wp2
      go_roundw
      case rel => exact ⟨k + 1, by omega, by go_num, HOW2, hBa⟩
      case measure => (simp [intOf]) <;> omega
    · have hkl2 : ¬ (k : Int) < T.length := by omega
      have HKK := Lib.hid (show k = T.length by omega)
      have hlen : (nlL I k).length = k := by simp [nlL]
      have HS := SlLd_own (P := nlL I k) (by rw [hlen]; exact HO.out)
      obtain ⟨A', cap2, rfl, hS, _⟩ := HS
      rw [hlen]
      have HSS : Hid (SlLd wr A' PL) := by
        show SlLd _ _ _
        rw [← hPL.out, ← HKK.out]; exact hS
      obtain ⟨kk, hkk⟩ : ∃ x, Hid (k = x) := ⟨_, Lib.hid rfl⟩
      have hke : Hid (kk = T.length) := Lib.hid (by rw [← hkk.out]; exact HKK.out)
      have hki : kk ≤ 4 := by rw [hke.out]; exact hT4
      have hpk : Hid (PL.length = kk) := Lib.hid (lL.out.trans hke.out.symm)
      have wrB : Below w.heap.size w wr := HJ5.out.2.2.2.2.2.2.trans (hB.mono HJ5.out.2.2.2.2.2.2.size)
      have m0 := (hB.cell (p := ⟨w.heap.size, 0, none⟩) HJ5.out.2.2.2.2.2.1).trans HJ5.out.1
      have m1 := (hB.cell (p := ⟨w.heap.size, 1, none⟩) HJ5.out.2.2.2.2.2.1).trans HJ5.out.2.1
      have m2 := (hB.cell (p := ⟨w.heap.size, 2, none⟩) HJ5.out.2.2.2.2.2.1).trans HJ5.out.2.2.1
      have m3 := (hB.cell (p := ⟨w.heap.size, 3, none⟩) HJ5.out.2.2.2.2.2.1).trans HJ5.out.2.2.2.1
      have m4 := (hB.cell (p := ⟨w.heap.size, 4, none⟩) HJ5.out.2.2.2.2.2.1).trans HJ5.out.2.2.2.2.1
      have mo : w.heap.size < wr.heap.size := Nat.lt_of_lt_of_le HJ5.out.2.2.2.2.2.1 hB.size
      rw [hkk.out] at hkl2 ⊢
      clear HO hS hlen hB hkl hk HJ5 HKK hkk sz
      go_wp2_with fail
      refine (Loaded_n T PL kk A A' cap cap2 f f s o h 3 PY _ hpk.out fL hg1 (by omega) hPY (HT.out.below wrB) HSS.out).mono ?_
      rintro e u1 ⟨q1, qf1, qc1, rfl, g1, g2, hLL, hb1⟩
      have HYL1 := Lib.hid hLL
      have gy1 := g2
      have HS1 := Lib.hid (HSS.out.below hb1)
      have k0 := (hb1.cell (p := ⟨w.heap.size, 0, none⟩) mo).trans m0
      have k1 := (hb1.cell (p := ⟨w.heap.size, 1, none⟩) mo).trans m1
      have k2 := (hb1.cell (p := ⟨w.heap.size, 2, none⟩) mo).trans m2
      have k3 := (hb1.cell (p := ⟨w.heap.size, 3, none⟩) mo).trans m3
      have k4 := (hb1.cell (p := ⟨w.heap.size, 4, none⟩) mo).trans m4
      have ko : w.heap.size < u1.heap.size := Nat.lt_of_lt_of_le mo hb1.size
      have kB : Below w.heap.size w u1 := wrB.trans (hb1.mono wrB.size)
      clear m0 m1 m2 m3 m4 mo wrB HSS g1 g2 hLL hb1
      have HKB := Lib.hid (And.intro kB (And.intro ko (And.intro k0 (And.intro k1 (And.intro k2 (And.intro k3 k4))))))
      have hun : u1.heap.size ≠ w.heap.size := by omega
      go_upto_region 16 with (fail)
      have hke' := hke.out
      subst hke'
      generalize hu2 : u1.alloc (.cells #[.int .i64 f, .int .i64 f, .int .i64 s2, .int .i64 o, .int .i64 h] 27) = u2
      have hBu : Below u1.heap.size u1 u2 := by rw [← hu2]; exact (Below.refl _ _).alloc (Nat.le_refl _) _
      have r0 : u2.cell? ⟨u1.heap.size, 0, none⟩ = some (.int .i64 f) := by rw [← hu2]; simp [go_sem]
      have r1 : u2.cell? ⟨u1.heap.size, 1, none⟩ = some (.int .i64 f) := by rw [← hu2]; simp [go_sem]
      have r2 : u2.cell? ⟨u1.heap.size, 2, none⟩ = some (.int .i64 s2) := by rw [← hu2]; simp [go_sem]
      have r3 : u2.cell? ⟨u1.heap.size, 3, none⟩ = some (.int .i64 o) := by rw [← hu2]; simp [go_sem]
      have r4 : u2.cell? ⟨u1.heap.size, 4, none⟩ = some (.int .i64 h) := by rw [← hu2]; simp [go_sem]
      have lo : w.heap.size < u2.heap.size := Nat.lt_of_lt_of_le ko hBu.size
      have lB : Below w.heap.size w u2 := kB.trans (hBu.mono kB.size)
      have HX2 : Hid (u2.cell? ⟨w.heap.size, 0, none⟩ = some (.int .i64 f) ∧ u2.cell? ⟨w.heap.size, 2, none⟩ = some (.int .i64 s) ∧ u2.cell? ⟨w.heap.size, 3, none⟩ = some (.int .i64 o) ∧ u2.cell? ⟨w.heap.size, 4, none⟩ = some (.int .i64 h)) := Lib.hid ⟨(hBu.cell (p := ⟨w.heap.size, 0, none⟩) ko).trans k0, (hBu.cell (p := ⟨w.heap.size, 2, none⟩) ko).trans k2, (hBu.cell (p := ⟨w.heap.size, 3, none⟩) ko).trans k3, (hBu.cell (p := ⟨w.heap.size, 4, none⟩) ko).trans k4⟩
      have HY2 := Lib.hid (HYL1.out.below hBu gy1)
      have gy2 : q1 < u2.heap.size := Nat.lt_of_lt_of_le gy1 hBu.size
      have HS2 := Lib.hid (HS1.out.below hBu)
      have HLB := Lib.hid lB
      clear hu2 k0 k1 k2 k3 k4 ko kB HKB HYL1 HS1 hun gy1 hBu lB
      go_wp2_with fail
      refine (Loaded_n T PL T.length A A' cap cap2 f f s2 o h 3 PZ _ hpk.out fL hg2' (by omega) hPZ (HT.out.below HLB.out) HS2.out).mono ?_
      rintro e u3 ⟨q2, qf2, qc2, rfl, gz0, gz3, hLZ, hb3⟩
      have HZ3 := Lib.hid hLZ
      have HY3 := Lib.hid (HY2.out.below hb3 gy2)
      have gy3 : q1 < u3.heap.size := Nat.lt_of_lt_of_le gy2 hb3.size
      have HS3 := Lib.hid (HS2.out.below hb3)
      have lo3 : w.heap.size < u3.heap.size := Nat.lt_of_lt_of_le lo hb3.size
      have HLB3 := Lib.hid (HLB.out.trans (hb3.mono HLB.out.size))
      have HX3 : Hid (u3.cell? ⟨w.heap.size, 0, none⟩ = some (.int .i64 f) ∧ u3.cell? ⟨w.heap.size, 2, none⟩ = some (.int .i64 s) ∧ u3.cell? ⟨w.heap.size, 3, none⟩ = some (.int .i64 o) ∧ u3.cell? ⟨w.heap.size, 4, none⟩ = some (.int .i64 h)) := Lib.hid ⟨(hb3.cell (p := ⟨w.heap.size, 0, none⟩) lo).trans HX2.out.1, (hb3.cell (p := ⟨w.heap.size, 2, none⟩) lo).trans HX2.out.2.1, (hb3.cell (p := ⟨w.heap.size, 3, none⟩) lo).trans HX2.out.2.2.1, (hb3.cell (p := ⟨w.heap.size, 4, none⟩) lo).trans HX2.out.2.2.2⟩
      clear hLZ gz0 r0 r1 r2 r3 r4 HY2 gy2 HS2 HLB HX2 lo hb3
      go_wp2_with fail
      go_loopw [18] (fun i wr => ∃ j : Nat, j ≤ T.length ∧ i = .int .i64 j ∧ Below u3.heap.size u3 wr) (fun i _ => T.length - (intOf i).toNat)
      case atStart => exact ⟨0, by omega, rfl, Below.refl _ _⟩
      case round =>
        obtain ⟨j, hj, rfl, hB⟩ := hrel
        have sz3 := hB.size
        by_cases hjl : j < T.length
        · as_aux_lemma =>
          have hjl2 : (j : Int) < T.length := by omega
          have jp : j < PL.length := by rw [hpk.out]; exact hjl
          have jy : j < PY.length := by rw [lY.out]; exact hjl
          have jz : j < PZ.length := by rw [lZ.out]; exact hjl
          rcases (HS3.out.below hB : SlLd wr A' PL) with hnil | ⟨pb, po, hAA, plt, PLc⟩
          · rw [hnil] at jp; simp at jp
          subst hAA
          obtain ⟨a, b, y0, y1, y2, y3, z0, z1, z2, z3, pk, py, pz, ny, hy, nz, hz', fr1, fr2⟩ := HK.out j hjl
          rw [getD_of jp] at pk
          rw [getD_of jy] at py
          rw [getD_of jz] at pz
          have YL := HY3.out.below hB gy3
          have ZL := HZ3.out.below hB gz3
          have ylt : q1 < wr.heap.size := Nat.lt_of_lt_of_le gy3 hB.size
          have zlt : q2 < wr.heap.size := Nat.lt_of_lt_of_le gz3 hB.size
          obtain ⟨c0, c1, c2, c3⟩ := PLc j jp
          obtain ⟨d0, d1, d2, d3⟩ := YL j jy
          obtain ⟨e0, e1, e2, e3⟩ := ZL j jz
          rw [pk] at c0 c2
          rw [py] at d0 d1 d2 d3
          rw [pz] at e0 e1 e2 e3
          dsimp only at c0 c2 d0 d1 d2 d3 e0 e1 e2 e3
          have HHB := Lib.hid hB
          have HNY := Lib.hid ny
          have HHY := Lib.hid hy
          have HNZ := Lib.hid nz
          have HHZ := Lib.hid hz'
          have HF1 := Lib.hid fr1
          have HF2 := Lib.hid fr2
          clear PLc YL ZL pk py pz jp jy jz c1 c3 ny hy nz hz' fr1 fr2 hB
          go_upto_region 22 with (fail)
          have HS : ∀ w', Below wr.heap.size wr w' → w'.cell? ⟨q1, qf1 + j * 4, none⟩ = some (.int .i64 y0) ∧ w'.cell? ⟨q1, qf1 + j * 4 + 1, none⟩ = some (.int .i64 y1) ∧ w'.cell? ⟨q1, qf1 + j * 4 + 2, none⟩ = some (.int .i64 y2) ∧ w'.cell? ⟨q1, qf1 + j * 4 + 3, none⟩ = some (.int .i64 y3) ∧ w'.cell? ⟨q2, qf2 + j * 4, none⟩ = some (.int .i64 z0) ∧ w'.cell? ⟨q2, qf2 + j * 4 + 1, none⟩ = some (.int .i64 z1) ∧ w'.cell? ⟨q2, qf2 + j * 4 + 2, none⟩ = some (.int .i64 z2) ∧ w'.cell? ⟨q2, qf2 + j * 4 + 3, none⟩ = some (.int .i64 z3) ∧ w'.cell? ⟨pb, po + j * 4, none⟩ = some (.int .i64 a) ∧ w'.cell? ⟨pb, po + j * 4 + 2, none⟩ = some (.int .i64 b) := fun w' hb => ⟨(hb.cell (p := ⟨q1, qf1 + j * 4, none⟩) ylt).trans d0, (hb.cell (p := ⟨q1, qf1 + j * 4 + 1, none⟩) ylt).trans d1, (hb.cell (p := ⟨q1, qf1 + j * 4 + 2, none⟩) ylt).trans d2, (hb.cell (p := ⟨q1, qf1 + j * 4 + 3, none⟩) ylt).trans d3, (hb.cell (p := ⟨q2, qf2 + j * 4, none⟩) zlt).trans e0, (hb.cell (p := ⟨q2, qf2 + j * 4 + 1, none⟩) zlt).trans e1, (hb.cell (p := ⟨q2, qf2 + j * 4 + 2, none⟩) zlt).trans e2, (hb.cell (p := ⟨q2, qf2 + j * 4 + 3, none⟩) zlt).trans e3, (hb.cell (p := ⟨pb, po + j * 4, none⟩) plt).trans c0, (hb.cell (p := ⟨pb, po + j * 4 + 2, none⟩) plt).trans c2⟩
          have HS' := Lib.hid HS
          clear HS c0 c2 d0 d1 d2 d3 e0 e1 e2 e3
          refine wp_region_held_drew (S := (fun w' => w'.cell? ⟨q1, qf1 + j * 4, none⟩ = some (.int .i64 y0) ∧ w'.cell? ⟨q1, qf1 + j * 4 + 1, none⟩ = some (.int .i64 y1) ∧ w'.cell? ⟨q1, qf1 + j * 4 + 2, none⟩ = some (.int .i64 y2) ∧ w'.cell? ⟨q1, qf1 + j * 4 + 3, none⟩ = some (.int .i64 y3) ∧ w'.cell? ⟨q2, qf2 + j * 4, none⟩ = some (.int .i64 z0) ∧ w'.cell? ⟨q2, qf2 + j * 4 + 1, none⟩ = some (.int .i64 z1) ∧ w'.cell? ⟨q2, qf2 + j * 4 + 2, none⟩ = some (.int .i64 z2) ∧ w'.cell? ⟨q2, qf2 + j * 4 + 3, none⟩ = some (.int .i64 z3) ∧ w'.cell? ⟨pb, po + j * 4, none⟩ = some (.int .i64 a) ∧ w'.cell? ⟨pb, po + j * 4 + 2, none⟩ = some (.int .i64 b))) (by kernel_rfl) (by exact HS'.out _ ((Below.refl wr.heap.size wr).drew)) (fun hHeld => ?_)
          have hB0 : Below wr.heap.size wr wr.drew := (Below.refl wr.heap.size wr).drew
          generalize hdr : wr.drew = v0 at *
          clear hdr
          refine wpAnyH_take (i := 0) (oi := ⟨some 145, _, _, _, _, _⟩) (v := ?_) rfl (by kernel_rfl) (by kernel_rfl) (by kernel_rfl) (fun _ _ _ h => h) (Or.inl ⟨by kernel_rfl, ?_⟩) (by assumption) ?_
          rotate_left
          · (intro w hSw; (try dsimp only at hSw); go_simp; all_goals with_reducible rfl)
          try simp only [Act.put, List.setIfInBounds_toArray, List.set_cons_zero, List.set_cons_succ]
          refine wpAnyH_take (i := 1) (oi := ⟨some 146, _, _, _, _, _⟩) (v := ?_) rfl (by kernel_rfl) (by kernel_rfl) (by kernel_rfl) (fun _ _ _ h => h) (Or.inl ⟨by kernel_rfl, ?_⟩) (by assumption) ?_
          rotate_left
          · (intro w hSw; (try dsimp only at hSw); go_simp; all_goals with_reducible rfl)
          try simp only [Act.put, List.setIfInBounds_toArray, List.set_cons_zero, List.set_cons_succ]
          refine wpAnyH_take (i := 2) (oi := ⟨some 147, _, _, _, _, _⟩) (v := ?_) rfl (by kernel_rfl) (by kernel_rfl) (by kernel_rfl) (fun _ _ _ h => h) (Or.inl ⟨by kernel_rfl, ?_⟩) (by assumption) ?_
          rotate_left
          · (intro w hSw; (try dsimp only at hSw); go_simp; all_goals with_reducible rfl)
          try simp only [Act.put, List.setIfInBounds_toArray, List.set_cons_zero, List.set_cons_succ]
          refine wpAnyH_take (i := 3) (oi := ⟨some 148, _, _, _, _, _⟩) (v := ?_) rfl (by kernel_rfl) (by kernel_rfl) (by kernel_rfl) (fun _ _ _ h => h) (Or.inl ⟨by kernel_rfl, ?_⟩) (by assumption) ?_
          rotate_left
          · (intro w hSw; (try dsimp only at hSw); go_simp; all_goals with_reducible rfl)
          try simp only [Act.put, List.setIfInBounds_toArray, List.set_cons_zero, List.set_cons_succ]
          refine wpAnyH_take (i := 4) (oi := ⟨some 149, _, _, _, _, _⟩) (v := ?_) rfl (by kernel_rfl) (by kernel_rfl) (by kernel_rfl) (fun _ _ _ h => h) (Or.inl ⟨by kernel_rfl, ?_⟩) (by assumption) ?_
          rotate_left
          · (intro w hSw; (try dsimp only at hSw); go_simp; all_goals with_reducible rfl)
          try simp only [Act.put, List.setIfInBounds_toArray, List.set_cons_zero, List.set_cons_succ]
          refine wpAnyH_take (i := 5) (oi := ⟨some 150, _, _, _, _, _⟩) (v := ?_) rfl (by kernel_rfl) (by kernel_rfl) (by kernel_rfl) (fun _ _ _ h => h) (Or.inl ⟨by kernel_rfl, ?_⟩) (by assumption) ?_
          rotate_left
          · (intro w hSw; (try dsimp only at hSw); go_simp; all_goals with_reducible rfl)
          try simp only [Act.put, List.setIfInBounds_toArray, List.set_cons_zero, List.set_cons_succ]
          refine wpAnyH_take (i := 6) (oi := ⟨some 151, _, _, _, _, _⟩) (v := ?_) rfl (by kernel_rfl) (by kernel_rfl) (by kernel_rfl) (fun _ _ _ h => h) (Or.inl ⟨by kernel_rfl, ?_⟩) (by assumption) ?_
          rotate_left
          · (intro w hSw; (try dsimp only at hSw); go_simp; all_goals with_reducible rfl)
          try simp only [Act.put, List.setIfInBounds_toArray, List.set_cons_zero, List.set_cons_succ]
          refine wpAnyH_take (i := 7) (oi := ⟨some 152, _, _, _, _, _⟩) (v := ?_) rfl (by kernel_rfl) (by kernel_rfl) (by kernel_rfl) (fun _ _ _ h => h) (Or.inl ⟨by kernel_rfl, ?_⟩) (by assumption) ?_
          rotate_left
          · (intro w hSw; (try dsimp only at hSw); go_simp; all_goals with_reducible rfl)
          try simp only [Act.put, List.setIfInBounds_toArray, List.set_cons_zero, List.set_cons_succ]
          refine wpAnyH_take (i := 8) (oi := ⟨some 153, _, _, _, _, _⟩) (v := ?_) rfl (by kernel_rfl) (by kernel_rfl) (by kernel_rfl) (fun _ _ _ h => h) (Or.inl ⟨by kernel_rfl, ?_⟩) (by assumption) ?_
          rotate_left
          · (intro w hSw; (try dsimp only at hSw); go_simp; all_goals with_reducible rfl)
          try simp only [Act.put, List.setIfInBounds_toArray, List.set_cons_zero, List.set_cons_succ]
          refine wpAnyH_take (i := 9) (oi := ⟨some 154, _, _, _, _, _⟩) (v := ?_) rfl (by kernel_rfl) (by kernel_rfl) (by kernel_rfl) (fun _ _ _ h => h) (Or.inl ⟨by kernel_rfl, ?_⟩) (by assumption) ?_
          rotate_left
          · (intro w hSw; (try dsimp only at hSw); go_simp; all_goals with_reducible rfl)
          try simp only [Act.put, List.setIfInBounds_toArray, List.set_cons_zero, List.set_cons_succ]
          refine wpAnyH_take (i := 10) (oi := ⟨some 155, _, _, _, _, _⟩) (v := ?_) rfl (by kernel_rfl) (by kernel_rfl) (by kernel_rfl) (fun _ _ _ h => h) (Or.inl ⟨by kernel_rfl, ?_⟩) (by assumption) ?_
          rotate_left
          · (intro w hSw; (try dsimp only at hSw); go_simp; all_goals with_reducible rfl)
          try simp only [Act.put, List.setIfInBounds_toArray, List.set_cons_zero, List.set_cons_succ]
          refine wpAnyH_take (i := 11) (oi := ⟨some 156, _, _, _, _, _⟩) (v := ?_) rfl (by kernel_rfl) (by kernel_rfl) (by kernel_rfl) (fun _ _ _ h => h) (Or.inl ⟨by kernel_rfl, ?_⟩) (by assumption) ?_
          rotate_left
          · (intro w hSw; (try dsimp only at hSw); go_simp; all_goals with_reducible rfl)
          try simp only [Act.put, List.setIfInBounds_toArray, List.set_cons_zero, List.set_cons_succ]
          refine wpAnyH_ready (rs := [12]) (by kernel_rfl) (by simp) ?_
          refine AllReadyH.cons rfl (fun K hK => ?_) AllReadyH.nil
          go_simp
          refine (drawn_is y0 y1 a N _ HNY.out.1 HNY.out.2.1 HNY.out.2.2).mono ?_
          rintro e v1 ⟨rfl, hb1⟩
          have hB1 : Below wr.heap.size wr v1 := hB0.trans (hb1.mono hB0.size)
          go_wp2_with fail
          refine hK.out _ _ (by exact HS'.out _ hB1) (fun hHeld => ?_)
          clear hK K
          try simp only [Act.put, List.setIfInBounds_toArray, List.set_cons_zero, List.set_cons_succ]
          refine wpAnyH_take (i := 13) (oi := ⟨some 158, _, _, _, _, _⟩) (v := ?_) rfl (by kernel_rfl) (by kernel_rfl) (by kernel_rfl) (fun _ _ _ h => h) (Or.inl ⟨by kernel_rfl, ?_⟩) (by assumption) ?_
          rotate_left
          · (intro w hSw; (try dsimp only at hSw); go_simp; all_goals with_reducible rfl)
          try simp only [Act.put, List.setIfInBounds_toArray, List.set_cons_zero, List.set_cons_succ]
          refine wpAnyH_take (i := 14) (oi := ⟨some 159, _, _, _, _, _⟩) (v := ?_) rfl (by kernel_rfl) (by kernel_rfl) (by kernel_rfl) (fun _ _ _ h => h) (Or.inl ⟨by kernel_rfl, ?_⟩) (by assumption) ?_
          rotate_left
          · (intro w hSw; (try dsimp only at hSw); go_simp; all_goals with_reducible rfl)
          try simp only [Act.put, List.setIfInBounds_toArray, List.set_cons_zero, List.set_cons_succ]
          refine wpAnyH_take (i := 15) (oi := ⟨some 160, _, _, _, _, _⟩) (v := ?_) rfl (by kernel_rfl) (by kernel_rfl) (by kernel_rfl) (fun _ _ _ h => h) (Or.inl ⟨by kernel_rfl, ?_⟩) (by assumption) ?_
          rotate_left
          · (intro w hSw; (try dsimp only at hSw); go_simp; all_goals with_reducible rfl)
          try simp only [Act.put, List.setIfInBounds_toArray, List.set_cons_zero, List.set_cons_succ]
          refine wpAnyH_take (i := 16) (oi := ⟨some 161, _, _, _, _, _⟩) (v := ?_) rfl (by kernel_rfl) (by kernel_rfl) (by kernel_rfl) (fun _ _ _ h => h) (Or.inl ⟨by kernel_rfl, ?_⟩) (by assumption) ?_
          rotate_left
          · (intro w hSw; (try dsimp only at hSw); go_simp; all_goals with_reducible rfl)
          try simp only [Act.put, List.setIfInBounds_toArray, List.set_cons_zero, List.set_cons_succ]
          refine wpAnyH_take (i := 17) (oi := ⟨some 162, _, _, _, _, _⟩) (v := ?_) rfl (by kernel_rfl) (by kernel_rfl) (by kernel_rfl) (fun _ _ _ h => h) (Or.inl ⟨by kernel_rfl, ?_⟩) (by assumption) ?_
          rotate_left
          · (intro w hSw; (try dsimp only at hSw); go_simp; all_goals with_reducible rfl)
          try simp only [Act.put, List.setIfInBounds_toArray, List.set_cons_zero, List.set_cons_succ]
          refine wpAnyH_take (i := 18) (oi := ⟨some 163, _, _, _, _, _⟩) (v := ?_) rfl (by kernel_rfl) (by kernel_rfl) (by kernel_rfl) (fun _ _ _ h => h) (Or.inl ⟨by kernel_rfl, ?_⟩) (by assumption) ?_
          rotate_left
          · (intro w hSw; (try dsimp only at hSw); go_simp; all_goals with_reducible rfl)
          try simp only [Act.put, List.setIfInBounds_toArray, List.set_cons_zero, List.set_cons_succ]
          refine wpAnyH_take (i := 19) (oi := ⟨some 164, _, _, _, _, _⟩) (v := ?_) rfl (by kernel_rfl) (by kernel_rfl) (by kernel_rfl) (fun _ _ _ h => h) (Or.inl ⟨by kernel_rfl, ?_⟩) (by assumption) ?_
          rotate_left
          · (intro w hSw; (try dsimp only at hSw); go_simp; all_goals with_reducible rfl)
          try simp only [Act.put, List.setIfInBounds_toArray, List.set_cons_zero, List.set_cons_succ]
          refine wpAnyH_take (i := 20) (oi := ⟨some 165, _, _, _, _, _⟩) (v := ?_) rfl (by kernel_rfl) (by kernel_rfl) (by kernel_rfl) (fun _ _ _ h => h) (Or.inl ⟨by kernel_rfl, ?_⟩) (by assumption) ?_
          rotate_left
          · (intro w hSw; (try dsimp only at hSw); go_simp; all_goals with_reducible rfl)
          try simp only [Act.put, List.setIfInBounds_toArray, List.set_cons_zero, List.set_cons_succ]
          refine wpAnyH_take (i := 21) (oi := ⟨some 166, _, _, _, _, _⟩) (v := ?_) rfl (by kernel_rfl) (by kernel_rfl) (by kernel_rfl) (fun _ _ _ h => h) (Or.inl ⟨by kernel_rfl, ?_⟩) (by assumption) ?_
          rotate_left
          · (intro w hSw; (try dsimp only at hSw); go_simp; all_goals with_reducible rfl)
          try simp only [Act.put, List.setIfInBounds_toArray, List.set_cons_zero, List.set_cons_succ]
          refine wpAnyH_take (i := 22) (oi := ⟨some 167, _, _, _, _, _⟩) (v := ?_) rfl (by kernel_rfl) (by kernel_rfl) (by kernel_rfl) (fun _ _ _ h => h) (Or.inl ⟨by kernel_rfl, ?_⟩) (by assumption) ?_
          rotate_left
          · (intro w hSw; (try dsimp only at hSw); go_simp; all_goals with_reducible rfl)
          try simp only [Act.put, List.setIfInBounds_toArray, List.set_cons_zero, List.set_cons_succ]
          refine wpAnyH_take (i := 23) (oi := ⟨some 168, _, _, _, _, _⟩) (v := ?_) rfl (by kernel_rfl) (by kernel_rfl) (by kernel_rfl) (fun _ _ _ h => h) (Or.inl ⟨by kernel_rfl, ?_⟩) (by assumption) ?_
          rotate_left
          · (intro w hSw; (try dsimp only at hSw); go_simp; all_goals with_reducible rfl)
          try simp only [Act.put, List.setIfInBounds_toArray, List.set_cons_zero, List.set_cons_succ]
          refine wpAnyH_take (i := 24) (oi := ⟨some 169, _, _, _, _, _⟩) (v := ?_) rfl (by kernel_rfl) (by kernel_rfl) (by kernel_rfl) (fun _ _ _ h => h) (Or.inl ⟨by kernel_rfl, ?_⟩) (by assumption) ?_
          rotate_left
          · (intro w hSw; (try dsimp only at hSw); go_simp; all_goals with_reducible rfl)
          try simp only [Act.put, List.setIfInBounds_toArray, List.set_cons_zero, List.set_cons_succ]
          refine wpAnyH_take (i := 25) (oi := ⟨some 170, _, _, _, _, _⟩) (v := ?_) rfl (by kernel_rfl) (by kernel_rfl) (by kernel_rfl) (fun _ _ _ h => h) (Or.inl ⟨by kernel_rfl, ?_⟩) (by assumption) ?_
          rotate_left
          · (intro w hSw; (try dsimp only at hSw); go_simp; all_goals with_reducible rfl)
          try simp only [Act.put, List.setIfInBounds_toArray, List.set_cons_zero, List.set_cons_succ]
          refine wpAnyH_take (i := 26) (oi := ⟨some 171, _, _, _, _, _⟩) (v := ?_) rfl (by kernel_rfl) (by kernel_rfl) (by kernel_rfl) (fun _ _ _ h => h) (Or.inl ⟨by kernel_rfl, ?_⟩) (by assumption) ?_
          rotate_left
          · (intro w hSw; (try dsimp only at hSw); go_simp; all_goals with_reducible rfl)
          try simp only [Act.put, List.setIfInBounds_toArray, List.set_cons_zero, List.set_cons_succ]
          refine wpAnyH_ready (rs := [27]) (by kernel_rfl) (by simp) ?_
          refine AllReadyH.cons rfl (fun K hK => ?_) AllReadyH.nil
          go_simp
          refine (drawn_is y2 y3 b M _ HHY.out.1 HHY.out.2.1 HHY.out.2.2).mono ?_
          rintro e v2 ⟨rfl, hb2⟩
          have hB2 : Below wr.heap.size wr v2 := hB1.trans (hb2.mono hB1.size)
          go_wp2_with fail
          refine hK.out _ _ (by exact HS'.out _ hB2) (fun hHeld => ?_)
          clear hK K
          try simp only [Act.put, List.setIfInBounds_toArray, List.set_cons_zero, List.set_cons_succ]
          refine wpAnyH_take (i := 28) (oi := ⟨some 173, _, _, _, _, _⟩) (v := ?_) rfl (by kernel_rfl) (by kernel_rfl) (by kernel_rfl) (fun _ _ _ h => h) (Or.inl ⟨by kernel_rfl, ?_⟩) (by assumption) ?_
          rotate_left
          · (intro w hSw; (try dsimp only at hSw); go_simp; all_goals with_reducible rfl)
          try simp only [Act.put, List.setIfInBounds_toArray, List.set_cons_zero, List.set_cons_succ]
          refine wpAnyH_take (i := 29) (oi := ⟨some 174, _, _, _, _, _⟩) (v := ?_) rfl (by kernel_rfl) (by kernel_rfl) (by kernel_rfl) (fun _ _ _ h => h) (Or.inl ⟨by kernel_rfl, ?_⟩) (by assumption) ?_
          rotate_left
          · (intro w hSw; (try dsimp only at hSw); go_simp; all_goals with_reducible rfl)
          try simp only [Act.put, List.setIfInBounds_toArray, List.set_cons_zero, List.set_cons_succ]
          refine wpAnyH_take (i := 30) (oi := ⟨some 175, _, _, _, _, _⟩) (v := ?_) rfl (by kernel_rfl) (by kernel_rfl) (by kernel_rfl) (fun _ _ _ h => h) (Or.inl ⟨by kernel_rfl, ?_⟩) (by assumption) ?_
          rotate_left
          · (intro w hSw; (try dsimp only at hSw); go_simp; all_goals with_reducible rfl)
          try simp only [Act.put, List.setIfInBounds_toArray, List.set_cons_zero, List.set_cons_succ]
          refine wpAnyH_take (i := 31) (oi := ⟨some 176, _, _, _, _, _⟩) (v := ?_) rfl (by kernel_rfl) (by kernel_rfl) (by kernel_rfl) (fun _ _ _ h => h) (Or.inl ⟨by kernel_rfl, ?_⟩) (by assumption) ?_
          rotate_left
          · (intro w hSw; (try dsimp only at hSw); go_simp; all_goals with_reducible rfl)
          try simp only [Act.put, List.setIfInBounds_toArray, List.set_cons_zero, List.set_cons_succ]
          refine wpAnyH_take (i := 32) (oi := ⟨some 177, _, _, _, _, _⟩) (v := ?_) rfl (by kernel_rfl) (by kernel_rfl) (by kernel_rfl) (fun _ _ _ h => h) (Or.inl ⟨by kernel_rfl, ?_⟩) (by assumption) ?_
          rotate_left
          · (intro w hSw; (try dsimp only at hSw); go_simp; all_goals with_reducible rfl)
          try simp only [Act.put, List.setIfInBounds_toArray, List.set_cons_zero, List.set_cons_succ]
          refine wpAnyH_take (i := 33) (oi := ⟨some 178, _, _, _, _, _⟩) (v := ?_) rfl (by kernel_rfl) (by kernel_rfl) (by kernel_rfl) (fun _ _ _ h => h) (Or.inl ⟨by kernel_rfl, ?_⟩) (by assumption) ?_
          rotate_left
          · (intro w hSw; (try dsimp only at hSw); go_simp; all_goals with_reducible rfl)
          try simp only [Act.put, List.setIfInBounds_toArray, List.set_cons_zero, List.set_cons_succ]
          refine wpAnyH_take (i := 34) (oi := ⟨some 179, _, _, _, _, _⟩) (v := ?_) rfl (by kernel_rfl) (by kernel_rfl) (by kernel_rfl) (fun _ _ _ h => h) (Or.inl ⟨by kernel_rfl, ?_⟩) (by assumption) ?_
          rotate_left
          · (intro w hSw; (try dsimp only at hSw); go_simp; all_goals with_reducible rfl)
          try simp only [Act.put, List.setIfInBounds_toArray, List.set_cons_zero, List.set_cons_succ]
          refine wpAnyH_take (i := 35) (oi := ⟨some 180, _, _, _, _, _⟩) (v := ?_) rfl (by kernel_rfl) (by kernel_rfl) (by kernel_rfl) (fun _ _ _ h => h) (Or.inl ⟨by kernel_rfl, ?_⟩) (by assumption) ?_
          rotate_left
          · (intro w hSw; (try dsimp only at hSw); go_simp; all_goals with_reducible rfl)
          try simp only [Act.put, List.setIfInBounds_toArray, List.set_cons_zero, List.set_cons_succ]
          refine wpAnyH_take (i := 36) (oi := ⟨some 181, _, _, _, _, _⟩) (v := ?_) rfl (by kernel_rfl) (by kernel_rfl) (by kernel_rfl) (fun _ _ _ h => h) (Or.inl ⟨by kernel_rfl, ?_⟩) (by assumption) ?_
          rotate_left
          · (intro w hSw; (try dsimp only at hSw); go_simp; all_goals with_reducible rfl)
          try simp only [Act.put, List.setIfInBounds_toArray, List.set_cons_zero, List.set_cons_succ]
          refine wpAnyH_take (i := 37) (oi := ⟨some 182, _, _, _, _, _⟩) (v := ?_) rfl (by kernel_rfl) (by kernel_rfl) (by kernel_rfl) (fun _ _ _ h => h) (Or.inl ⟨by kernel_rfl, ?_⟩) (by assumption) ?_
          rotate_left
          · (intro w hSw; (try dsimp only at hSw); go_simp; all_goals with_reducible rfl)
          try simp only [Act.put, List.setIfInBounds_toArray, List.set_cons_zero, List.set_cons_succ]
          refine wpAnyH_take (i := 38) (oi := ⟨some 183, _, _, _, _, _⟩) (v := ?_) rfl (by kernel_rfl) (by kernel_rfl) (by kernel_rfl) (fun _ _ _ h => h) (Or.inl ⟨by kernel_rfl, ?_⟩) (by assumption) ?_
          rotate_left
          · (intro w hSw; (try dsimp only at hSw); go_simp; all_goals with_reducible rfl)
          try simp only [Act.put, List.setIfInBounds_toArray, List.set_cons_zero, List.set_cons_succ]
          refine wpAnyH_take (i := 39) (oi := ⟨some 184, _, _, _, _, _⟩) (v := ?_) rfl (by kernel_rfl) (by kernel_rfl) (by kernel_rfl) (fun _ _ _ h => h) (Or.inl ⟨by kernel_rfl, ?_⟩) (by assumption) ?_
          rotate_left
          · (intro w hSw; (try dsimp only at hSw); go_simp; all_goals with_reducible rfl)
          try simp only [Act.put, List.setIfInBounds_toArray, List.set_cons_zero, List.set_cons_succ]
          refine wpAnyH_take (i := 40) (oi := ⟨some 185, _, _, _, _, _⟩) (v := ?_) rfl (by kernel_rfl) (by kernel_rfl) (by kernel_rfl) (fun _ _ _ h => h) (Or.inl ⟨by kernel_rfl, ?_⟩) (by assumption) ?_
          rotate_left
          · (intro w hSw; (try dsimp only at hSw); go_simp; all_goals with_reducible rfl)
          try simp only [Act.put, List.setIfInBounds_toArray, List.set_cons_zero, List.set_cons_succ]
          refine wpAnyH_take (i := 41) (oi := ⟨some 186, _, _, _, _, _⟩) (v := ?_) rfl (by kernel_rfl) (by kernel_rfl) (by kernel_rfl) (fun _ _ _ h => h) (Or.inl ⟨by kernel_rfl, ?_⟩) (by assumption) ?_
          rotate_left
          · (intro w hSw; (try dsimp only at hSw); go_simp; all_goals with_reducible rfl)
          try simp only [Act.put, List.setIfInBounds_toArray, List.set_cons_zero, List.set_cons_succ]
          refine wpAnyH_take (i := 42) (oi := ⟨some 187, _, _, _, _, _⟩) (v := ?_) rfl (by kernel_rfl) (by kernel_rfl) (by kernel_rfl) (fun _ _ _ h => h) (Or.inl ⟨by kernel_rfl, ?_⟩) (by assumption) ?_
          rotate_left
          · (intro w hSw; (try dsimp only at hSw); go_simp; all_goals with_reducible rfl)
          try simp only [Act.put, List.setIfInBounds_toArray, List.set_cons_zero, List.set_cons_succ]
          refine wpAnyH_ready (rs := [43]) (by kernel_rfl) (by simp) ?_
          refine AllReadyH.cons rfl (fun K hK => ?_) AllReadyH.nil
          go_simp
          refine (drawn_is z0 z1 a N _ HNZ.out.1 HNZ.out.2.1 HNZ.out.2.2).mono ?_
          rintro e v3 ⟨rfl, hb3⟩
          have hB3 : Below wr.heap.size wr v3 := hB2.trans (hb3.mono hB2.size)
          go_wp2_with fail
          refine hK.out _ _ (by exact HS'.out _ hB3) (fun hHeld => ?_)
          clear hK K
          try simp only [Act.put, List.setIfInBounds_toArray, List.set_cons_zero, List.set_cons_succ]
          refine wpAnyH_take (i := 44) (oi := ⟨some 189, _, _, _, _, _⟩) (v := ?_) rfl (by kernel_rfl) (by kernel_rfl) (by kernel_rfl) (fun _ _ _ h => h) (Or.inl ⟨by kernel_rfl, ?_⟩) (by assumption) ?_
          rotate_left
          · (intro w hSw; (try dsimp only at hSw); go_simp; all_goals with_reducible rfl)
          try simp only [Act.put, List.setIfInBounds_toArray, List.set_cons_zero, List.set_cons_succ]
          refine wpAnyH_take (i := 45) (oi := ⟨some 190, _, _, _, _, _⟩) (v := ?_) rfl (by kernel_rfl) (by kernel_rfl) (by kernel_rfl) (fun _ _ _ h => h) (Or.inl ⟨by kernel_rfl, ?_⟩) (by assumption) ?_
          rotate_left
          · (intro w hSw; (try dsimp only at hSw); go_simp; all_goals with_reducible rfl)
          try simp only [Act.put, List.setIfInBounds_toArray, List.set_cons_zero, List.set_cons_succ]
          refine wpAnyH_take (i := 46) (oi := ⟨some 191, _, _, _, _, _⟩) (v := ?_) rfl (by kernel_rfl) (by kernel_rfl) (by kernel_rfl) (fun _ _ _ h => h) (Or.inl ⟨by kernel_rfl, ?_⟩) (by assumption) ?_
          rotate_left
          · (intro w hSw; (try dsimp only at hSw); go_simp; all_goals with_reducible rfl)
          try simp only [Act.put, List.setIfInBounds_toArray, List.set_cons_zero, List.set_cons_succ]
          refine wpAnyH_take (i := 47) (oi := ⟨some 192, _, _, _, _, _⟩) (v := ?_) rfl (by kernel_rfl) (by kernel_rfl) (by kernel_rfl) (fun _ _ _ h => h) (Or.inl ⟨by kernel_rfl, ?_⟩) (by assumption) ?_
          rotate_left
          · (intro w hSw; (try dsimp only at hSw); go_simp; all_goals with_reducible rfl)
          try simp only [Act.put, List.setIfInBounds_toArray, List.set_cons_zero, List.set_cons_succ]
          refine wpAnyH_take (i := 48) (oi := ⟨some 193, _, _, _, _, _⟩) (v := ?_) rfl (by kernel_rfl) (by kernel_rfl) (by kernel_rfl) (fun _ _ _ h => h) (Or.inl ⟨by kernel_rfl, ?_⟩) (by assumption) ?_
          rotate_left
          · (intro w hSw; (try dsimp only at hSw); go_simp; all_goals with_reducible rfl)
          try simp only [Act.put, List.setIfInBounds_toArray, List.set_cons_zero, List.set_cons_succ]
          refine wpAnyH_take (i := 49) (oi := ⟨some 194, _, _, _, _, _⟩) (v := ?_) rfl (by kernel_rfl) (by kernel_rfl) (by kernel_rfl) (fun _ _ _ h => h) (Or.inl ⟨by kernel_rfl, ?_⟩) (by assumption) ?_
          rotate_left
          · (intro w hSw; (try dsimp only at hSw); go_simp; all_goals with_reducible rfl)
          try simp only [Act.put, List.setIfInBounds_toArray, List.set_cons_zero, List.set_cons_succ]
          refine wpAnyH_take (i := 50) (oi := ⟨some 195, _, _, _, _, _⟩) (v := ?_) rfl (by kernel_rfl) (by kernel_rfl) (by kernel_rfl) (fun _ _ _ h => h) (Or.inl ⟨by kernel_rfl, ?_⟩) (by assumption) ?_
          rotate_left
          · (intro w hSw; (try dsimp only at hSw); go_simp; all_goals with_reducible rfl)
          try simp only [Act.put, List.setIfInBounds_toArray, List.set_cons_zero, List.set_cons_succ]
          refine wpAnyH_take (i := 51) (oi := ⟨some 196, _, _, _, _, _⟩) (v := ?_) rfl (by kernel_rfl) (by kernel_rfl) (by kernel_rfl) (fun _ _ _ h => h) (Or.inl ⟨by kernel_rfl, ?_⟩) (by assumption) ?_
          rotate_left
          · (intro w hSw; (try dsimp only at hSw); go_simp; all_goals with_reducible rfl)
          try simp only [Act.put, List.setIfInBounds_toArray, List.set_cons_zero, List.set_cons_succ]
          refine wpAnyH_take (i := 52) (oi := ⟨some 197, _, _, _, _, _⟩) (v := ?_) rfl (by kernel_rfl) (by kernel_rfl) (by kernel_rfl) (fun _ _ _ h => h) (Or.inl ⟨by kernel_rfl, ?_⟩) (by assumption) ?_
          rotate_left
          · (intro w hSw; (try dsimp only at hSw); go_simp; all_goals with_reducible rfl)
          try simp only [Act.put, List.setIfInBounds_toArray, List.set_cons_zero, List.set_cons_succ]
          refine wpAnyH_take (i := 53) (oi := ⟨some 198, _, _, _, _, _⟩) (v := ?_) rfl (by kernel_rfl) (by kernel_rfl) (by kernel_rfl) (fun _ _ _ h => h) (Or.inl ⟨by kernel_rfl, ?_⟩) (by assumption) ?_
          rotate_left
          · (intro w hSw; (try dsimp only at hSw); go_simp; all_goals with_reducible rfl)
          try simp only [Act.put, List.setIfInBounds_toArray, List.set_cons_zero, List.set_cons_succ]
          refine wpAnyH_take (i := 54) (oi := ⟨some 199, _, _, _, _, _⟩) (v := ?_) rfl (by kernel_rfl) (by kernel_rfl) (by kernel_rfl) (fun _ _ _ h => h) (Or.inl ⟨by kernel_rfl, ?_⟩) (by assumption) ?_
          rotate_left
          · (intro w hSw; (try dsimp only at hSw); go_simp; all_goals with_reducible rfl)
          try simp only [Act.put, List.setIfInBounds_toArray, List.set_cons_zero, List.set_cons_succ]
          refine wpAnyH_take (i := 55) (oi := ⟨some 200, _, _, _, _, _⟩) (v := ?_) rfl (by kernel_rfl) (by kernel_rfl) (by kernel_rfl) (fun _ _ _ h => h) (Or.inl ⟨by kernel_rfl, ?_⟩) (by assumption) ?_
          rotate_left
          · (intro w hSw; (try dsimp only at hSw); go_simp; all_goals with_reducible rfl)
          try simp only [Act.put, List.setIfInBounds_toArray, List.set_cons_zero, List.set_cons_succ]
          refine wpAnyH_take (i := 56) (oi := ⟨some 201, _, _, _, _, _⟩) (v := ?_) rfl (by kernel_rfl) (by kernel_rfl) (by kernel_rfl) (fun _ _ _ h => h) (Or.inl ⟨by kernel_rfl, ?_⟩) (by assumption) ?_
          rotate_left
          · (intro w hSw; (try dsimp only at hSw); go_simp; all_goals with_reducible rfl)
          try simp only [Act.put, List.setIfInBounds_toArray, List.set_cons_zero, List.set_cons_succ]
          refine wpAnyH_take (i := 57) (oi := ⟨some 202, _, _, _, _, _⟩) (v := ?_) rfl (by kernel_rfl) (by kernel_rfl) (by kernel_rfl) (fun _ _ _ h => h) (Or.inl ⟨by kernel_rfl, ?_⟩) (by assumption) ?_
          rotate_left
          · (intro w hSw; (try dsimp only at hSw); go_simp; all_goals with_reducible rfl)
          try simp only [Act.put, List.setIfInBounds_toArray, List.set_cons_zero, List.set_cons_succ]
          refine wpAnyH_take (i := 58) (oi := ⟨some 203, _, _, _, _, _⟩) (v := ?_) rfl (by kernel_rfl) (by kernel_rfl) (by kernel_rfl) (fun _ _ _ h => h) (Or.inl ⟨by kernel_rfl, ?_⟩) (by assumption) ?_
          rotate_left
          · (intro w hSw; (try dsimp only at hSw); go_simp; all_goals with_reducible rfl)
          try simp only [Act.put, List.setIfInBounds_toArray, List.set_cons_zero, List.set_cons_succ]
          refine wpAnyH_ready (rs := [59]) (by kernel_rfl) (by simp) ?_
          refine AllReadyH.cons rfl (fun K hK => ?_) AllReadyH.nil
          go_simp
          refine (drawn_is z2 z3 b M _ HHZ.out.1 HHZ.out.2.1 HHZ.out.2.2).mono ?_
          rintro e v4 ⟨rfl, hb4⟩
          have hB4 : Below wr.heap.size wr v4 := hB3.trans (hb4.mono hB3.size)
          go_wp2_with fail
          refine hK.out _ _ (by exact HS'.out _ hB4) (fun hHeld => ?_)
          clear hK K
          try simp only [Act.put, List.setIfInBounds_toArray, List.set_cons_zero, List.set_cons_succ]
          refine wpAnyH_take (i := 60) (oi := ⟨some 205, _, _, _, _, _⟩) (v := ?_) rfl (by kernel_rfl) (by kernel_rfl) (by kernel_rfl) (fun _ _ _ h => h) (Or.inl ⟨by kernel_rfl, ?_⟩) (by assumption) ?_
          rotate_left
          · (intro w hSw; (try dsimp only at hSw); go_simp; all_goals with_reducible rfl)
          try simp only [Act.put, List.setIfInBounds_toArray, List.set_cons_zero, List.set_cons_succ]
          refine wpAnyH_take (i := 61) (oi := ⟨some 206, _, _, _, _, _⟩) (v := ?_) rfl (by kernel_rfl) (by kernel_rfl) (by kernel_rfl) (fun _ _ _ h => h) (Or.inl ⟨by kernel_rfl, ?_⟩) (by assumption) ?_
          rotate_left
          · (intro w hSw; (try dsimp only at hSw); go_simp; all_goals with_reducible rfl)
          try simp only [Act.put, List.setIfInBounds_toArray, List.set_cons_zero, List.set_cons_succ]
          refine wpAnyH_done (by kernel_rfl) ?_ _
          go_wp2_with fail
          obtain ⟨d0, d1, d2, d3, e0, e1, e2, e3, c0, c2⟩ := HS'.out _ hB4
          have hBv : Below u3.heap.size u3 v4 := HHB.out.trans (hB4.mono HHB.out.size)
          clear HS' hB4
          by_cases hna : N ≤ a
          · have hq1 : decide (N ≤ a) = true := by simpa using hna
            have hq2 : ¬ a < N := by omega
            have hq3 : decide (a < N) = false := by simpa using hq2
            have hq4 : ¬ y1 < z0 := by have := HF1.out hna; omega
            have hq5 : decide (y1 < z0) = false := by simpa using hq4
            go_big_quiet (fail)
            go_wp2
            go_roundw
            case rel => exact ⟨j + 1, by omega, by go_num, (by (repeat (first | (with_reducible refine Below.drew ?_) | (with_reducible refine below_drewN ?_ _) | (with_reducible refine Below.alloc ?_ (by first | omega | (simp; done) | (simp; omega) | (simp at *; omega)) _) | (with_reducible refine Below.setCell ?_ (by first | omega | (simp; done) | (simp; omega) | (simp at *; omega)) _) | (with_reducible exact Below.refl _ _) | (with_reducible assumption) | (with_reducible refine Below.trans ?_ (Below.mono (by assumption) (by first | omega | (simp; done) | (simp; omega) | (simp at *; omega)))))))⟩
            case measure => (simp [intOf]) <;> omega
          · have hq1 : decide (N ≤ a) = false := by simpa using hna
            have hq2 : a < N := by omega
            have hq3 : decide (a < N) = true := by simpa using hq2
            have hq4 : ¬ z1 < y0 := by have := HF2.out hq2; omega
            have hq5 : decide (z1 < y0) = false := by simpa using hq4
            go_big_quiet (fail)
            go_wp2
            go_roundw
            case rel => exact ⟨j + 1, by omega, by go_num, (by (repeat (first | (with_reducible refine Below.drew ?_) | (with_reducible refine below_drewN ?_ _) | (with_reducible refine Below.alloc ?_ (by first | omega | (simp; done) | (simp; omega) | (simp at *; omega)) _) | (with_reducible refine Below.setCell ?_ (by first | omega | (simp; done) | (simp; omega) | (simp at *; omega)) _) | (with_reducible exact Below.refl _ _) | (with_reducible assumption) | (with_reducible refine Below.trans ?_ (Below.mono (by assumption) (by first | omega | (simp; done) | (simp; omega) | (simp at *; omega)))))))⟩
            case measure => (simp [intOf]) <;> omega
        · as_aux_lemma =>
          have hjl2 : ¬ (j : Int) < T.length := by omega
          have x0 := (hB.cell (p := ⟨w.heap.size, 0, none⟩) lo3).trans HX3.out.1
          have x2 := (hB.cell (p := ⟨w.heap.size, 2, none⟩) lo3).trans HX3.out.2.1
          have x3 := (hB.cell (p := ⟨w.heap.size, 3, none⟩) lo3).trans HX3.out.2.2.1
          have x4 := (hB.cell (p := ⟨w.heap.size, 4, none⟩) lo3).trans HX3.out.2.2.2
          have xo : w.heap.size < wr.heap.size := Nat.lt_of_lt_of_le lo3 hB.size
          have HXB := Lib.hid (HLB3.out.trans (hB.mono HLB3.out.size))
          have HY4 := Lib.hid (HY3.out.below hB gy3)
          have gy4 : q1 < wr.heap.size := Nat.lt_of_lt_of_le gy3 hB.size
          have HS4 := Lib.hid (HS3.out.below hB)
          clear hB HY3 HS3 HZ3 gy3 gz3 HLB3 HX3 lo3 hjl sz3
          by_cases hsu : inB f 400 1100 = true
          · by_cases ho : o = 210
            · by_cases hh : h = 0
              · obtain ⟨su0, su1⟩ := inB_iff.1 hsu
                subst ho hh
                have hsu := Lib.hid hsu
                go_wp2_with fail
                refine (nSurf_is f true _ hsu).mono ?_
                rintro e x1 ⟨rfl, rfl⟩
                go_wp2_with fail
                refine (Rested_good T PL A A' cap cap2 f s T.length _ hpk.out hF fL su0 su1 (by omega) (by omega) (HT.out.below HXB.out) HS4.out).mono ?_
                rintro e wq ⟨q3, qf3, qc3, rfl, g1, g2, hLL, hb5⟩
                have HY5 := Lib.hid (SlLd.of (Nat.lt_of_lt_of_le gy4 hb5.size) (HY4.out.below hb5 gy4))
                have HR5 := Lib.hid (SlLd.of g2 hLL)
                have HXB5 := Lib.hid (HXB.out.trans (hb5.mono HXB.out.size))
                clear hb5 hLL x0 x2 x3 x4 g1 g2 gy4 xo
                go_wp2_with fail
                refine (apart_f (rsR f s T PL) PY T.length _ _ _ _ _ (Lib.hid (by simp [rsR])) lY (by omega) (Lib.hid (HR.out (by simp) (by simp) su0 su1)) HR5.out HY5.out).mono ?_
                rintro e wz ⟨rfl, hb6⟩
                have HXB6 := HXB5.out.trans (hb6.mono HXB5.out.size)
                go_wp2
                go_ret
                exact ⟨by first | rfl | simp, HXB6⟩
              · have hsu := Lib.hid hsu
                go_wp2_with fail
                refine (nSurf_is f true _ hsu).mono ?_
                rintro e x1 ⟨rfl, rfl⟩
                have XB := HXB.out
                go_wp2
                go_ret
                exact ⟨by first | rfl | simp, XB⟩
            · have hsu := Lib.hid hsu
              go_wp2_with fail
              refine (nSurf_is f true _ hsu).mono ?_
              rintro e x1 ⟨rfl, rfl⟩
              have XB := HXB.out
              go_wp2
              go_ret
              exact ⟨by first | rfl | simp, XB⟩
          · have hsu : Hid (inB f 400 1100 = false) := Lib.hid (by simpa using hsu)
            go_wp2_with fail
            refine (nSurf_is f false _ hsu).mono ?_
            rintro e x1 ⟨rfl, rfl⟩
            have XB := HXB.out
            go_wp2
            go_ret
            exact ⟨by first | rfl | simp, XB⟩
set_option maxRecDepth 100000 in
theorem topNearer_any (T : List Cm) (A : Option Addr) (cap : Nat) (I : List Int) (C : Option Addr) (capi : Nat) (f t s o h : Int) (w : World) (hl : T.length ≤ 9223372036854775807) (hA : A = none → cap = 0) (hT : SlCm w A T) (hlI : I.length ≤ 9223372036854775807) (hC : C = none → capi = 0) (hI : SlIn w C I) :
    Calls Try.prog 4 #[.slice A T.length cap, .slice C I.length capi, .agg #[.int .i64 f, .int .i64 t, .int .i64 s, .int .i64 o, .int .i64 h]] w fun e w' => e = .returned (.bool true) ∧ Below w.heap.size w w' := by
  by_cases h4 : 4 < T.length
  · exact topNearer_big T A cap I C capi f t s o h w hl hA hT hlI hC hI h4
  · by_cases ht : tabE T = 0
    · by_cases hg : legE f t s o h = 0
      · by_cases hf : I.length < 2 * T.length
        · exact topNearer_few T A cap I C capi f t s o h w hl hA hT hlI hC hI (by omega) ht hg hf
        · by_cases hs : 50000 < s
          · exact topNearer_long T A cap I C capi f t s o h w hl hA hT hlI hC hI (by omega) ht hg hf hs
          · exact topNearer_good T A cap I C capi f t s o h w hl hA hT hlI hC hI (by omega) ht hg hf hs
      · exact topNearer_leg T A cap I C capi f t s o h w hl hA hT hlI hC hI (by omega) ht hg
    · exact topNearer_tab T A cap I C capi f t s o h w hl hA hT hlI hC hI (by omega) ht
end Go.Proofs.Ytfaodlcfjhnhbaa
