/- What gas.checkDepths and the function inside gas.FirstGap return. -/
import Derived.Test.YtebieflnlmdllabRich
import Derived.Test.YtebieflnlmdllabDep
import Derived.Deep.Cut
import Derived.Outline
namespace Go.Proofs.Ytebieflnlmdllab
open Go.ChangeShapes Go.WideShapes Go.ChangeAt Go.RowKit
set_option linter.unusedVariables false
set_option linter.unusedSimpArgs false
attribute [local go_sem ↓] Go.wp_at_zero Go.wp_at_succ

def rd2 (x y : Int) : Int := firE [rngE x 0 30000, rngE y 0 30000]
/-- The error of a range of depths. -/
def rdE (x y : Int) : Int := if rd2 x y = 0 then (if x ≤ y then 0 else 9) else rd2 x y
theorem rdE_z {x y : Int} (k : rdE x y = 0) : 0 ≤ x ∧ x ≤ 30000 ∧ 0 ≤ y ∧ y ≤ 30000 ∧ x ≤ y := by
  unfold rdE at k
  split at k
  · obtain ⟨k1, k2⟩ := firE2_z (x := rngE x 0 30000) (y := rngE y 0 30000) ‹_›
    have := rngE_z k1
    have := rngE_z k2
    split at k <;> omega
  · exact absurd k ‹_›
/-- May a gas be breathed at a depth? -/
def brB (g : Gs) (s a b d : Int) : Bool := decide (depE g.o g.h s a b = 0) && inB d (depL g.o g.h s a b) (depH g.o g.h s a b)
def brAny (P : List Gs) (s a b d : Int) : Prop := ∃ k, ∃ hk : k < P.length, brB P[k] s a b d = true
theorem depH_bd {o h s a b : Int} : depH o h s a b ≤ 30000 := by
  unfold depH depHi
  split
  · split <;> omega
  · omega
theorem brB_up {g : Gs} {s a b d y : Int} (h : brB g s a b d = true) (h1 : d ≤ y) (h2 : y ≤ depH g.o g.h s a b) : brB g s a b y = true := by
  unfold brB at *
  rw [Bool.and_eq_true] at *
  refine ⟨h.1, ?_⟩
  have := inB_iff.1 h.2
  exact inB_true (by omega) h2
theorem brB_bd {g : Gs} {s a b d : Int} (h : brB g s a b d = true) : d ≤ depH g.o g.h s a b := by
  unfold brB at h
  rw [Bool.and_eq_true] at h
  exact (inB_iff.1 h.2).2
set_option maxHeartbeats 1000000 in
theorem checkDepths_any (x y : Int) (w : World) :
    Calls Try.prog 29 #[.agg #[.int .i64 x, .int .i64 y]] w fun e w' => e = .returned (.int .i64 (rdE x y)) ∧ Below w.heap.size w w' := by
  rcases ez (rd2 x y) with ⟨h, hb⟩ | ⟨h, hb⟩
  · by_cases h2 : x ≤ y
    · have h4 : Hid (rdE x y = 0) := by unfold rdE Hid; rw [if_pos h.out, if_pos h2]
      unfold rd2 at hb
      go_enter Try.func29, Try.ntmps29
      go_wp2
      go_region_held3 (fun w' => w'.cell? ⟨w.heap.size, 0, none⟩ = some (.int .i64 x) ∧ w'.cell? ⟨w.heap.size, 1, none⟩ = some (.int .i64 y)) (simp [go_sem, World.cell?_alloc_past])
        (first
          | (go_at_call 26; ((with_reducible refine (checkDepth_any _ _).mono ?_)); rintro e w' ⟨rfl, rfl⟩)
          | (go_at_call 21; ((with_reducible refine (firstOf2c (rngE x 0 30000) (rngE y 0 30000) _ _ (by simp [go_sem]) (by simp [go_sem])).mono ?_)); rintro e w' ⟨rfl, rfl⟩))
      all_goals
        go_wp2
        go_ret
        exact ⟨ret_int h4.out.symm, (by (repeat (first | (with_reducible refine Below.drew ?_) | (with_reducible refine below_drewN ?_ _) | (with_reducible refine Below.alloc ?_ (by first | omega | (simp; done) | (simp; omega) | (simp at *; omega)) _) | (with_reducible refine Below.setCell ?_ (by first | omega | (simp; done) | (simp; omega) | (simp at *; omega)) _) | (with_reducible exact Below.refl _ _) | (with_reducible assumption) | (with_reducible refine Below.trans ?_ (Below.mono (by assumption) (by first | omega | (simp; done) | (simp; omega) | (simp at *; omega)))))))⟩
    · have h4 : Hid (rdE x y = 9) := by unfold rdE Hid; rw [if_pos h.out, if_neg h2]
      unfold rd2 at hb
      go_enter Try.func29, Try.ntmps29
      go_wp2
      go_region_held3 (fun w' => w'.cell? ⟨w.heap.size, 0, none⟩ = some (.int .i64 x) ∧ w'.cell? ⟨w.heap.size, 1, none⟩ = some (.int .i64 y)) (simp [go_sem, World.cell?_alloc_past])
        (first
          | (go_at_call 26; ((with_reducible refine (checkDepth_any _ _).mono ?_)); rintro e w' ⟨rfl, rfl⟩)
          | (go_at_call 21; ((with_reducible refine (firstOf2c (rngE x 0 30000) (rngE y 0 30000) _ _ (by simp [go_sem]) (by simp [go_sem])).mono ?_)); rintro e w' ⟨rfl, rfl⟩))
      all_goals
        go_wp2
        go_ret
        exact ⟨ret_int h4.out.symm, (by (repeat (first | (with_reducible refine Below.drew ?_) | (with_reducible refine below_drewN ?_ _) | (with_reducible refine Below.alloc ?_ (by first | omega | (simp; done) | (simp; omega) | (simp at *; omega)) _) | (with_reducible refine Below.setCell ?_ (by first | omega | (simp; done) | (simp; omega) | (simp at *; omega)) _) | (with_reducible exact Below.refl _ _) | (with_reducible assumption) | (with_reducible refine Below.trans ?_ (Below.mono (by assumption) (by first | omega | (simp; done) | (simp; omega) | (simp at *; omega)))))))⟩
  · have h4 : Hid (rdE x y = rd2 x y) := by unfold rdE Hid; rw [if_neg h.out]
    unfold rd2 at hb
    go_enter Try.func29, Try.ntmps29
    go_wp2
    go_region_held3 (fun w' => w'.cell? ⟨w.heap.size, 0, none⟩ = some (.int .i64 x) ∧ w'.cell? ⟨w.heap.size, 1, none⟩ = some (.int .i64 y)) (simp [go_sem, World.cell?_alloc_past])
      (first
        | (go_at_call 26; ((with_reducible refine (checkDepth_any _ _).mono ?_)); rintro e w' ⟨rfl, rfl⟩)
        | (go_at_call 21; ((with_reducible refine (firstOf2c (rngE x 0 30000) (rngE y 0 30000) _ _ (by simp [go_sem]) (by simp [go_sem])).mono ?_)); rintro e w' ⟨rfl, rfl⟩))
    all_goals
      go_wp2
      go_ret
      exact ⟨ret_int h4.out.symm, (by (repeat (first | (with_reducible refine Below.drew ?_) | (with_reducible refine below_drewN ?_ _) | (with_reducible refine Below.alloc ?_ (by first | omega | (simp; done) | (simp; omega) | (simp at *; omega)) _) | (with_reducible refine Below.setCell ?_ (by first | omega | (simp; done) | (simp; omega) | (simp at *; omega)) _) | (with_reducible exact Below.refl _ _) | (with_reducible assumption) | (with_reducible refine Below.trans ?_ (Below.mono (by assumption) (by first | omega | (simp; done) | (simp; omega) | (simp at *; omega)))))))⟩
theorem DepthsFor_v (o h s a b x y c : Int) (w : World) (hx : Hid (depL o h s a b = x)) (hy : Hid (depH o h s a b = y)) (hc : Hid (depE o h s a b = c)) :
    Calls Try.prog 8 #[.agg #[.int .i64 o, .int .i64 h], .int .i64 s, .agg #[.int .i64 a, .int .i64 b]] w fun e w' => e = .returned (.tuple #[.agg #[.int .i64 x, .int .i64 y], .int .i64 c]) ∧ Below w.heap.size w w' := by
  have := DepthsFor_any o h s a b w
  rw [hx.out, hy.out, hc.out] at this
  exact this
theorem within_v (n a b : Int) (x : Bool) (w : World) (hx : Hid (inB n a b = x)) :
    Calls Try.prog 31 #[.int .i64 n, .int .i64 a, .int .i64 b] w fun e w' => e = .returned (.bool x) ∧ w = w' := by
  have := within_any n a b w
  rw [hx.out] at this
  exact this
def BrPost (P : List Gs) (s a b d : Int) (w : World) (e : Ending) (w' : World) : Prop :=
  ((∃ k, ∃ hk : k < P.length, brB P[k] s a b d = true ∧ e = .returned (.tuple #[.int .i64 (depH P[k].o P[k].h s a b), .bool true])) ∨ (¬ brAny P s a b d ∧ e = .returned (.tuple #[.int .i64 0, .bool false]))) ∧ Below w.heap.size w w'
set_option maxRecDepth 100000 in
set_option maxHeartbeats 2000000 in
theorem breathed_any (P : List Gs) (c off cap pl ps po : Nat) (s a b d : Int) (w : World) (hl : P.length ≤ 1000000) (hlt : c < w.heap.size) (hP : GasesAt w c off P) (q0 : w.cell? ⟨pl, 0, none⟩ = some (.slice (some ⟨c, off, none⟩) P.length cap)) (q1 : w.cell? ⟨ps, 0, none⟩ = some (.int .i64 s)) (q2 : w.cell? ⟨po, 0, none⟩ = some (.int .i64 a)) (q3 : w.cell? ⟨po, 1, none⟩ = some (.int .i64 b)) :
    Calls Try.prog 30 #[.int .i64 d, .pointer (some ⟨pl, 0, none⟩), .pointer (some ⟨ps, 0, none⟩), .pointer (some ⟨po, 0, none⟩)] w (BrPost P s a b d w) := by
  have HP : Hid (GasesAt w c off P) := hP
  clear hP
  have l1 := World.block_lt_of_cell? _ _ q0
  have l2 := World.block_lt_of_cell? _ _ q1
  have l3 := World.block_lt_of_cell? _ _ q2
  have m1 : pl < w.heap.size := by simpa using l1
  have m2 : ps < w.heap.size := by simpa using l2
  have m3 : po < w.heap.size := by simpa using l3
  clear l1 l2 l3
  go_enter Try.func30, Try.ntmps30
  go_wp2
  go_loopw [13] (fun i wr => ∃ k : Nat, k ≤ P.length ∧ i = .int .i64 k ∧ Hid (∀ j, (hj : j < k) → (hj' : j < P.length) → brB P[j] s a b d = false) ∧ Below w.heap.size w wr ∧ wr.cell? ⟨pl, 0, none⟩ = some (.slice (some ⟨c, off, none⟩) P.length cap) ∧ wr.cell? ⟨ps, 0, none⟩ = some (.int .i64 s) ∧ wr.cell? ⟨po, 0, none⟩ = some (.int .i64 a) ∧ wr.cell? ⟨po, 1, none⟩ = some (.int .i64 b)) (fun i _ => P.length - (intOf i).toNat)
  case atStart => exact ⟨0, by omega, rfl, fun j hj => by omega, Below.refl _ _, q0, q1, q2, q3⟩
  case round =>
    clear q0 q1 q2 q3
    obtain ⟨k, hk, rfl, hz, hB, q0, q1, q2, q3⟩ := hrel
    by_cases hkl : k < P.length
    · obtain ⟨c0, c1⟩ := HP.out.below hB hlt k hkl
      have hsz := hB.size
      obtain ⟨xo, ho⟩ : ∃ x, Hid (P[k].o = x) := ⟨P[k].o, rfl⟩
      obtain ⟨xh, hh⟩ : ∃ x, Hid (P[k].h = x) := ⟨P[k].h, rfl⟩
      rw [ho.out] at c0
      rw [hh.out] at c1
      obtain ⟨x, hx⟩ : ∃ x, Hid (depL xo xh s a b = x) := ⟨_, rfl⟩
      obtain ⟨y, hy⟩ : ∃ x, Hid (depH xo xh s a b = x) := ⟨_, rfl⟩
      obtain ⟨f, hf⟩ : ∃ x, Hid (depE xo xh s a b = x) := ⟨_, rfl⟩
      obtain ⟨v, hv⟩ : ∃ v, Hid (inB d x y = v) := ⟨_, rfl⟩
      have hbr : Hid (brB P[k] s a b d = (decide (f = 0) && v)) := by unfold brB Hid; rw [ho.out, hh.out, hx.out, hy.out, hf.out, hv.out]
      have n1 : wr.heap.size ≠ pl := by omega
      have n2 : wr.heap.size ≠ ps := by omega
      have n3 : wr.heap.size ≠ po := by omega
      have n4 : pl < wr.heap.size := by omega
      have n5 : ps < wr.heap.size := by omega
      have n6 : po < wr.heap.size := by omega
      have n7 : wr.heap.size ≠ c := by omega
      have n8 : c < wr.heap.size := by omega
      go_wp2_with fail
      refine (DepthsFor_v xo xh s a b x y f _ hx hy hf).mono ?_
      rintro e w1 ⟨rfl, hbw1⟩
      have z1 := hbw1.size
      (try simp at z1)
      have e0 : w1.cell? ⟨pl, 0, none⟩ = some (.slice (some ⟨c, off, none⟩) P.length cap) := by rw [(bcell hbw1).1 _ _ (by first | (simp; done) | (simp; omega) | omega)]; simp [go_sem, World.cell?_alloc_past, *]
      have e1 : w1.cell? ⟨ps, 0, none⟩ = some (.int .i64 s) := by rw [(bcell hbw1).1 _ _ (by first | (simp; done) | (simp; omega) | omega)]; simp [go_sem, World.cell?_alloc_past, *]
      have e2 : w1.cell? ⟨po, 0, none⟩ = some (.int .i64 a) := by rw [(bcell hbw1).1 _ _ (by first | (simp; done) | (simp; omega) | omega)]; simp [go_sem, World.cell?_alloc_past, *]
      have e3 : w1.cell? ⟨po, 1, none⟩ = some (.int .i64 b) := by rw [(bcell hbw1).1 _ _ (by first | (simp; done) | (simp; omega) | omega)]; simp [go_sem, World.cell?_alloc_past, *]
      have hB1 : Below w.heap.size w w1 := (by (repeat (first | (with_reducible refine Below.drew ?_) | (with_reducible refine below_drewN ?_ _) | (with_reducible refine Below.alloc ?_ (by first | omega | (simp; done) | (simp; omega) | (simp at *; omega)) _) | (with_reducible refine Below.setCell ?_ (by first | omega | (simp; done) | (simp; omega) | (simp at *; omega)) _) | (with_reducible exact Below.refl _ _) | (with_reducible assumption) | (with_reducible refine Below.trans ?_ (Below.mono (by assumption) (by first | omega | (simp; done) | (simp; omega) | (simp at *; omega)))))))
      have o1 : w1.heap.size ≠ pl := by omega
      have o2 : w1.heap.size ≠ ps := by omega
      have o3 : w1.heap.size ≠ po := by omega
      have o4 : pl < w1.heap.size := by omega
      have o5 : ps < w1.heap.size := by omega
      have o6 : po < w1.heap.size := by omega
      clear q0 q1 q2 q3 c0 c1 hbw1 hB
      by_cases hf0 : f = 0
      · have hf1 : (f == 0) = true := by simpa using hf0
        have hbv : Hid (brB P[k] s a b d = v) := by show _ = _; rw [hbr.out, hf0]; simp
        clear hf0
        cases v
        · have hz2 : Hid (∀ j, (hj : j < k + 1) → (hj' : j < P.length) → brB P[j] s a b d = false) := fun j hj hj' => by
            by_cases e : j = k
            · subst e; exact hbv.out
            · exact hz.out j (by omega) hj'
          go_wp2_with ((go_at_call 31; ((with_reducible refine (within_v d _ _ _ _ hv).mono ?_)); rintro e w' ⟨rfl, rfl⟩))
          go_roundw
          case rel => exact ⟨k + 1, by omega, by go_num, hz2, (by (repeat (first | (with_reducible refine Below.drew ?_) | (with_reducible refine below_drewN ?_ _) | (with_reducible refine Below.alloc ?_ (by first | omega | (simp; done) | (simp; omega) | (simp at *; omega)) _) | (with_reducible refine Below.setCell ?_ (by first | omega | (simp; done) | (simp; omega) | (simp at *; omega)) _) | (with_reducible exact Below.refl _ _) | (with_reducible assumption) | (with_reducible refine Below.trans ?_ (Below.mono (by assumption) (by first | omega | (simp; done) | (simp; omega) | (simp at *; omega))))))), (by simp [go_sem, World.cell?_alloc_past, *]), (by simp [go_sem, World.cell?_alloc_past, *]), (by simp [go_sem, World.cell?_alloc_past, *]), (by simp [go_sem, World.cell?_alloc_past, *])⟩
          case measure => simp [intOf]; omega
        · have hyk : Hid (depH P[k].o P[k].h s a b = y) := by show _ = _; rw [ho.out, hh.out]; exact hy.out
          go_wp2_with ((go_at_call 31; ((with_reducible refine (within_v d _ _ _ _ hv).mono ?_)); rintro e w' ⟨rfl, rfl⟩))
          go_ret2
          exact ⟨Or.inl ⟨k, hkl, hbv.out, by rw [hyk.out]; rfl⟩, (by (repeat (first | (with_reducible refine Below.drew ?_) | (with_reducible refine below_drewN ?_ _) | (with_reducible refine Below.alloc ?_ (by first | omega | (simp; done) | (simp; omega) | (simp at *; omega)) _) | (with_reducible refine Below.setCell ?_ (by first | omega | (simp; done) | (simp; omega) | (simp at *; omega)) _) | (with_reducible exact Below.refl _ _) | (with_reducible assumption) | (with_reducible refine Below.trans ?_ (Below.mono (by assumption) (by first | omega | (simp; done) | (simp; omega) | (simp at *; omega)))))))⟩
      · have hf1 : (f == 0) = false := by simpa using hf0
        have hbv : Hid (brB P[k] s a b d = false) := by show _ = _; rw [hbr.out]; simp [hf0]
        have hz2 : Hid (∀ j, (hj : j < k + 1) → (hj' : j < P.length) → brB P[j] s a b d = false) := fun j hj hj' => by
          by_cases e : j = k
          · subst e; exact hbv.out
          · exact hz.out j (by omega) hj'
        go_wp2_with ((go_at_call 31; ((with_reducible refine (within_v d _ _ _ _ hv).mono ?_)); rintro e w' ⟨rfl, rfl⟩))
        go_roundw
        case rel => exact ⟨k + 1, by omega, by go_num, hz2, (by (repeat (first | (with_reducible refine Below.drew ?_) | (with_reducible refine below_drewN ?_ _) | (with_reducible refine Below.alloc ?_ (by first | omega | (simp; done) | (simp; omega) | (simp at *; omega)) _) | (with_reducible refine Below.setCell ?_ (by first | omega | (simp; done) | (simp; omega) | (simp at *; omega)) _) | (with_reducible exact Below.refl _ _) | (with_reducible assumption) | (with_reducible refine Below.trans ?_ (Below.mono (by assumption) (by first | omega | (simp; done) | (simp; omega) | (simp at *; omega))))))), (by simp [go_sem, World.cell?_alloc_past, *]), (by simp [go_sem, World.cell?_alloc_past, *]), (by simp [go_sem, World.cell?_alloc_past, *]), (by simp [go_sem, World.cell?_alloc_past, *])⟩
        case measure => simp [intOf]; omega
    · have hkk : k = P.length := by omega
      have hno : Hid (¬ brAny P s a b d) := by
        rintro ⟨j, hj, hjb⟩
        have := hz.out j (by omega) hj
        rw [this] at hjb; exact absurd hjb (by decide)
      clear hkk hz
      go_wp2
      go_ret2
      exact ⟨Or.inr ⟨hno.out, rfl⟩, (by (repeat (first | (with_reducible refine Below.drew ?_) | (with_reducible refine below_drewN ?_ _) | (with_reducible refine Below.alloc ?_ (by first | omega | (simp; done) | (simp; omega) | (simp at *; omega)) _) | (with_reducible refine Below.setCell ?_ (by first | omega | (simp; done) | (simp; omega) | (simp at *; omega)) _) | (with_reducible exact Below.refl _ _) | (with_reducible assumption) | (with_reducible refine Below.trans ?_ (Below.mono (by assumption) (by first | omega | (simp; done) | (simp; omega) | (simp at *; omega)))))))⟩
theorem breathed_nil (A : Option Addr) (cap pl ps po : Nat) (s a b d : Int) (w : World) (q0 : w.cell? ⟨pl, 0, none⟩ = some (.slice A 0 cap)) :
    Calls Try.prog 30 #[.int .i64 d, .pointer (some ⟨pl, 0, none⟩), .pointer (some ⟨ps, 0, none⟩), .pointer (some ⟨po, 0, none⟩)] w (BrPost [] s a b d w) := by
  have hno : Hid (¬ brAny [] s a b d) := by rintro ⟨j, hj, _⟩; simp at hj
  go_enter Try.func30, Try.ntmps30
  go_wp2
  go_loopw [13] (fun i wr => i = .int .i64 0 ∧ Below w.heap.size w wr) (fun i _ => (1 - intOf i).toNat)
  case atStart => exact ⟨rfl, Below.refl _ _⟩
  case round =>
    obtain ⟨rfl, hB⟩ := hrel
    go_wp2
    go_ret2
    exact ⟨Or.inr ⟨hno.out, rfl⟩, (by (repeat (first | (with_reducible refine Below.drew ?_) | (with_reducible refine below_drewN ?_ _) | (with_reducible refine Below.alloc ?_ (by first | omega | (simp; done) | (simp; omega) | (simp at *; omega)) _) | (with_reducible refine Below.setCell ?_ (by first | omega | (simp; done) | (simp; omega) | (simp at *; omega)) _) | (with_reducible exact Below.refl _ _) | (with_reducible assumption) | (with_reducible refine Below.trans ?_ (Below.mono (by assumption) (by first | omega | (simp; done) | (simp; omega) | (simp at *; omega)))))))⟩
end Go.Proofs.Ytebieflnlmdllab
