/- What the specifications of ranges of depths, and of the first gap, return. -/
import Derived.Test.YtebieflnlmdllaaDoorGap2
import Derived.Test.YtebieflnlmdllaaDoorRefDep
import Derived.Outline
namespace Go.Proofs.YtebieflnlmdllaaDoor
open Go.ChangeShapes Go.WideShapes Go.ChangeAt Go.RowKit
set_option linter.unusedVariables false
set_option linter.unusedSimpArgs false
attribute [local go_sem ↓] Go.wp_at_zero Go.wp_at_succ

theorem rdE_val (x y : Int) : rdE x y = if inB x 0 30000 = true ∧ inB y 0 30000 = true then (if x ≤ y then 0 else 9) else 2 := by
  unfold rdE rd2 rngE
  rcases inB_cases x 0 30000 with h1 | h1 <;> rcases inB_cases y 0 30000 with h2 | h2 <;> simp [h1, h2, firE]
theorem refCheckDepths_c (x y c : Int) (w : World) (hv : Hid (rdE x y = c)) :
    Calls Tryd.prog 52 #[.agg #[.int .i64 x, .int .i64 y]] w fun e w' => e = .returned (.int .i64 c) ∧ w.alloc (.cells #[.int .i64 x, .int .i64 y] 49) = w' := by
  by_cases h3 : x ≤ y
  all_goals
    rcases inB_cases x 0 30000 with h1 | h1 <;> rcases inB_cases y 0 30000 with h2 | h2
    all_goals
      go_enter Tryd.func52, Tryd.ntmps52
      go_wp2_with ((go_at_call 74; ((with_reducible refine (IsDepth_any _ _).mono ?_)); rintro e w' ⟨rfl, rfl⟩))
      go_ret
      exact ⟨ret_int (by rw [← hv.out, rdE_val]; simp [h1, h2, h3]), rfl⟩
def rawL (o s a : Int) : Int := if o = 0 then 0 else depLo o s a
def rawH (o s b : Int) : Int := if o = 0 then 0 else depHi o s b
theorem raw_br {g : Gs} {s a b d : Int} (hP : depP g.o g.h s a b = 0) : brB g s a b d = (decide (depE g.o g.h s a b = 0) && inB d (rawL g.o s a) (rawH g.o s b)) := by
  unfold brB
  by_cases hE : depE g.o g.h s a b = 0
  · have ho : g.o ≠ 0 := by
      intro h
      unfold depE at hE
      rw [if_pos hP, if_pos h] at hE
      exact absurd hE (by decide)
    rw [show depL g.o g.h s a b = rawL g.o s a by unfold depL rawL; rw [if_pos hE, if_neg ho], show depH g.o g.h s a b = rawH g.o s b by unfold depH rawH; rw [if_pos hE, if_neg ho]]
  · simp [hE]
theorem raw_H {g : Gs} {s a b d : Int} (hP : depP g.o g.h s a b = 0) (hb : brB g s a b d = true) : depH g.o g.h s a b = rawH g.o s b := by
  unfold brB at hb
  rw [Bool.and_eq_true, decide_eq_true_iff] at hb
  have hE := hb.1
  have ho : g.o ≠ 0 := by
    intro h
    unfold depE at hE
    rw [if_pos hP, if_pos h] at hE
    exact absurd hE (by decide)
  unfold depH rawH; rw [if_pos hE, if_neg ho]
theorem rawH_bd {o s b : Int} (k1 : 0 ≤ o) (k3 : 400 ≤ s) (k4 : s ≤ 1100) (k7 : 1 ≤ b) : -1100 ≤ rawH o s b ∧ rawH o s b ≤ 30000 := by
  have : 0 ≤ 1000 * b / o := Int.ediv_nonneg (by omega) k1
  unfold rawH depHi
  split
  · omega
  · split <;> omega
theorem gasesE1_memb {P : List Gs} (h : gasesE1 P = 0) : ∀ k, (hk : k < P.length) → 0 ≤ P[k].o ∧ P[k].o ≤ 1000 ∧ 0 ≤ P[k].h ∧ P[k].h ≤ 1000 ∧ P[k].o + P[k].h ≤ 1000 := by
  induction P with
  | nil => intro k hk; simp at hk
  | cons p r ih =>
    unfold gasesE1 at h
    by_cases hp : gasE p.o p.h = 0
    · rw [if_pos hp] at h
      intro k hk
      cases k with
      | zero => exact gasE_z hp
      | succ k => exact ih h k (by simpa using hk)
    · rw [if_neg hp] at h; exact absurd h hp
theorem gasesE_zz {P : List Gs} (h : gasesE P = 0) : ∀ k, (hk : k < P.length) → 0 ≤ P[k].o ∧ P[k].o ≤ 1000 ∧ 0 ≤ P[k].h ∧ P[k].h ≤ 1000 ∧ P[k].o + P[k].h ≤ 1000 := by
  unfold gasesE at h
  split at h
  · omega
  · exact gasesE1_memb h
theorem refDepths_v (o h s a b u v : Int) (x : Bool) (w : World) (k0 : 0 ≤ o) (k2 : o ≤ 1000) (k3 : 400 ≤ s) (k4 : s ≤ 1100) (k5 : 1 ≤ a) (k6 : a ≤ 4000) (k7 : 1 ≤ b) (k8 : b ≤ 4000) (hP : Hid (depP o h s a b = 0)) (hu : Hid (rawL o s a = u)) (hv : Hid (rawH o s b = v)) (hx : Hid (decide (depE o h s a b = 0) = x)) :
    Calls Tryd.prog 33 #[.agg #[.int .i64 o, .int .i64 h], .int .i64 s, .agg #[.int .i64 a, .int .i64 b]] w fun e w' => e = .returned (.tuple #[.agg #[.int .i64 u, .int .i64 v], .bool x]) ∧ Below w.heap.size w w' := by
  rw [← hu.out, ← hv.out, ← hx.out]
  by_cases ho : o = 0
  · subst ho
    have hE : depE 0 h s a b = 12 := by unfold depE; rw [if_pos hP.out, if_pos rfl]
    rw [hE]
    exact refDepthsFor_0 h s a b w
  · have hE : decide (depE o h s a b = 0) = decide (depLo o s a ≤ depHi o s b) := by
      unfold depE; rw [if_pos hP.out, if_neg ho]
      by_cases c : depLo o s a ≤ depHi o s b <;> simp [c]
    rw [hE]
    unfold rawL rawH
    rw [if_neg ho, if_neg ho]
    exact refDepthsFor_k o h s a b _ w (by omega) k2 k3 k4 k5 k6 k7 k8 rfl
set_option maxRecDepth 100000 in
set_option maxHeartbeats 8000000 in
theorem refFirstGap_ne (P : List Gs) (c off cap : Nat) (s a b lo hi : Int) (w : World) (hl : P.length ≤ 1000000) (hlt : c < w.heap.size) (hP : GasesAt w c off P)
    (k3 : 400 ≤ s) (k4 : s ≤ 1100) (k5 : 1 ≤ a) (k6 : a ≤ 4000) (k7 : 1 ≤ b) (k8 : b ≤ 4000) (d1 : 0 ≤ lo) (d2 : lo ≤ 30000) (d3 : 0 ≤ hi) (d4 : hi ≤ 30000) (d5 : lo ≤ hi)
    (hR : ∀ k, (hk : k < P.length) → 0 ≤ P[k].o ∧ P[k].o ≤ 1000) (hD : ∀ k, (hk : k < P.length) → depP P[k].o P[k].h s a b = 0) (g : Int) (hg : Hid (IsGap P s a b lo hi g ∨ (g = -1 ∧ NoGap P s a b lo hi))) :
    Calls Tryd.prog 53 #[.slice (some ⟨c, off, none⟩) P.length cap, .int .i64 s, .agg #[.int .i64 a, .int .i64 b], .agg #[.int .i64 lo, .int .i64 hi]] w fun e w' => e = .returned (.int .i64 g) ∧ Below w.heap.size w w' := by
  have HP : Hid (GasesAt w c off P) := hP
  have HR := Lib.hid hR
  have HD := Lib.hid hD
  clear hP hR hD
  go_enter Tryd.func53, Tryd.ntmps53
  go_wp2
  go_loopw [9] (fun t wr => ∃ x : Int, t = .int .i64 x ∧ lo ≤ x ∧ x ≤ 30001 ∧ Hid (∀ y, lo ≤ y → y < x → brAny P s a b y) ∧ Below w.heap.size w wr ∧ w.heap.size + 2 ≤ wr.heap.size ∧ wr.cell? ⟨w.heap.size, 0, none⟩ = some (.int .i64 a) ∧ wr.cell? ⟨w.heap.size, 1, none⟩ = some (.int .i64 b) ∧ wr.cell? ⟨w.heap.size + 1, 0, none⟩ = some (.int .i64 lo) ∧ wr.cell? ⟨w.heap.size + 1, 1, none⟩ = some (.int .i64 hi)) (fun t _ => (30002 - intOf t).toNat)
  case atStart => exact ⟨lo, rfl, by omega, by omega, fun y h1 h2 => by omega, (by (repeat (first | (with_reducible refine Below.drew ?_) | (with_reducible refine below_drewN ?_ _) | (with_reducible refine Below.alloc ?_ (by first | omega | (simp; done) | (simp; omega) | (simp at *; omega)) _) | (with_reducible refine Below.setCell ?_ (by first | omega | (simp; done) | (simp; omega) | (simp at *; omega)) _) | (with_reducible exact Below.refl _ _) | (with_reducible assumption) | (with_reducible refine Below.trans ?_ (Below.mono (by assumption) (by first | omega | (simp; done) | (simp; omega) | (simp at *; omega))))))), by simp, (by simp [go_sem, World.cell?_alloc_past, *]), (by simp [go_sem, World.cell?_alloc_past, *]), (by simp [go_sem, World.cell?_alloc_past, *]), (by simp [go_sem, World.cell?_alloc_past, *])⟩
  case round =>
    obtain ⟨x, rfl, x1, x2, hx, hB, hsz, q0, q1, q2, q3⟩ := hrel
    obtain ⟨wo, rfl⟩ : ∃ wo : World, wo = wr := ⟨_, rfl⟩
    by_cases hxh : x ≤ hi
    · go_wp2
      go_loopw [10, 11] (fun t i wr => ∃ k : Nat, ∃ nx : Int, k ≤ P.length ∧ t = .int .i64 nx ∧ i = .int .i64 k ∧ -1 ≤ nx ∧ nx ≤ 30001 ∧ Hid ((nx = -1 ∧ ∀ j, (hj : j < k) → (hj' : j < P.length) → brB P[j] s a b x = false) ∨ ∃ j, ∃ hj : j < P.length, brB P[j] s a b x = true ∧ nx = depH P[j].o P[j].h s a b + 1) ∧ Below w.heap.size w wr ∧ w.heap.size + 2 ≤ wr.heap.size ∧ wr.cell? ⟨w.heap.size, 0, none⟩ = some (.int .i64 a) ∧ wr.cell? ⟨w.heap.size, 1, none⟩ = some (.int .i64 b) ∧ wr.cell? ⟨w.heap.size + 1, 0, none⟩ = some (.int .i64 lo) ∧ wr.cell? ⟨w.heap.size + 1, 1, none⟩ = some (.int .i64 hi)) (fun _ i _ => P.length - (intOf i).toNat)
      case atStart => exact ⟨0, -1, by omega, rfl, rfl, by omega, by omega, Or.inl ⟨rfl, fun j hj => by omega⟩, hB, hsz, q0, q1, q2, q3⟩
      case round =>
        clear hB hsz q0 q1 q2 q3
        obtain ⟨k, nx, hk, rfl, rfl, b1, b2, hJ, hB, hsz, q0, q1, q2, q3⟩ := hrel
        by_cases hkl : k < P.length
        · obtain ⟨c0, c1⟩ := HP.out.below hB hlt k hkl
          obtain ⟨r1, r2⟩ := HR.out k hkl
          have hPk0 := HD.out k hkl
          have hrb := Lib.hid (raw_br (d := x) hPk0)
          have hrH := Lib.hid (raw_H (d := x) hPk0)
          obtain ⟨po, ho⟩ : ∃ x, Hid (P[k].o = x) := ⟨P[k].o, rfl⟩
          obtain ⟨ph, hh⟩ : ∃ x, Hid (P[k].h = x) := ⟨P[k].h, rfl⟩
          rw [ho.out] at c0 r1 r2
          rw [hh.out] at c1
          have hPk : Hid (depP po ph s a b = 0) := by rw [ho.out, hh.out] at hPk0; exact hPk0
          obtain ⟨v1, v2⟩ := rawH_bd (b := b) r1 k3 k4 k7
          obtain ⟨u, hu⟩ : ∃ x, Hid (rawL po s a = x) := ⟨_, rfl⟩
          obtain ⟨v, hv⟩ : ∃ x, Hid (rawH po s b = x) := ⟨_, rfl⟩
          obtain ⟨ok, hok⟩ : ∃ x, Hid (decide (depE po ph s a b = 0) = x) := ⟨_, rfl⟩
          obtain ⟨iv, hin⟩ : ∃ z, Hid (inB x u v = z) := ⟨_, rfl⟩
          rw [hv.out] at v1 v2
          have hbr : Hid (brB P[k] s a b x = (ok && iv)) := by show _ = _; rw [hrb.out, ho.out, hh.out, hok.out, hu.out, hv.out, hin.out]
          have cn : wr.heap.size ≠ c := by have := hB.size; omega
          have cl : c < wr.heap.size := by have := hB.size; omega
          have kl0 : (0 : Int) ≤ (k : Int) := by omega
          have kl1 : (k : Int) < (P.length : Int) := by omega
          have s1 : w.heap.size < wr.heap.size := by omega
          have s2 : w.heap.size + 1 < wr.heap.size := by omega
          have s3 : wr.heap.size ≠ w.heap.size := by omega
          have s4 : wr.heap.size ≠ w.heap.size + 1 := by omega
          have hno : Hid (brB P[k] s a b x = false → (((nx = -1 ∧ ∀ j, (hj : j < k + 1) → (hj' : j < P.length) → brB P[j] s a b x = false) ∨ ∃ j, ∃ hj : j < P.length, brB P[j] s a b x = true ∧ nx = depH P[j].o P[j].h s a b + 1))) := by
            intro hf
            rcases hJ.out with ⟨e, h⟩ | h
            · refine Or.inl ⟨e, fun j hj hj' => ?_⟩
              by_cases ee : j = k
              · subst ee; exact hf
              · exact h j (by omega) hj'
            · exact Or.inr h
          cases ok
          · have hN : Hid ((nx = -1 ∧ ∀ j, (hj : j < k + 1) → (hj' : j < P.length) → brB P[j] s a b x = false) ∨ ∃ j, ∃ hj : j < P.length, brB P[j] s a b x = true ∧ nx = depH P[j].o P[j].h s a b + 1) := hno.out (by rw [hbr.out]; rfl)
            go_wp2
            go_region_held3 (fun w' => w'.cell? ⟨w.heap.size, 0, none⟩ = some (.int .i64 a) ∧ w'.cell? ⟨w.heap.size, 1, none⟩ = some (.int .i64 b) ∧ w'.cell? ⟨w.heap.size + 1, 0, none⟩ = some (.int .i64 lo) ∧ w'.cell? ⟨w.heap.size + 1, 1, none⟩ = some (.int .i64 hi) ∧ w'.cell? ⟨c, off + k * 2, none⟩ = some (.int .i64 po) ∧ w'.cell? ⟨c, off + k * 2 + 1, none⟩ = some (.int .i64 ph)) (simp [go_sem, World.cell?_alloc_past, *])
              (first | (go_at_call 33; ((with_reducible refine (refDepths_v po ph s a b u v false _ r1 r2 k3 k4 k5 k6 k7 k8 hPk hu hv hok).mono ?_)); rintro e w1 ⟨rfl, hbw1⟩; have z1 := hbw1.size; (try simp at z1); have f0 : w1.cell? ⟨w.heap.size, 0, none⟩ = some (.int .i64 a) := (by rw [(bcell hbw1).1 _ _ (by first | (simp; done) | (simp; omega) | omega)]; simp [go_sem, World.cell?_alloc_past, *]); have f1 : w1.cell? ⟨w.heap.size, 1, none⟩ = some (.int .i64 b) := (by rw [(bcell hbw1).1 _ _ (by first | (simp; done) | (simp; omega) | omega)]; simp [go_sem, World.cell?_alloc_past, *]); have f2 : w1.cell? ⟨w.heap.size + 1, 0, none⟩ = some (.int .i64 lo) := (by rw [(bcell hbw1).1 _ _ (by first | (simp; done) | (simp; omega) | omega)]; simp [go_sem, World.cell?_alloc_past, *]); have f3 : w1.cell? ⟨w.heap.size + 1, 1, none⟩ = some (.int .i64 hi) := (by rw [(bcell hbw1).1 _ _ (by first | (simp; done) | (simp; omega) | omega)]; simp [go_sem, World.cell?_alloc_past, *]); have fc0 : w1.cell? ⟨c, off + k * 2, none⟩ = some (.int .i64 po) := (by rw [(bcell hbw1).1 _ _ (by first | (simp; done) | (simp; omega) | omega)]; simp [go_sem, World.cell?_alloc_past, *]); have fc1 : w1.cell? ⟨c, off + k * 2 + 1, none⟩ = some (.int .i64 ph) := (by rw [(bcell hbw1).1 _ _ (by first | (simp; done) | (simp; omega) | omega)]; simp [go_sem, World.cell?_alloc_past, *]); (try (have fg0 : w1.cell? ⟨wr.heap.size, 0, none⟩ = some (.int .i64 0) := (by rw [(bcell hbw1).1 _ _ (by first | (simp; done) | (simp; omega) | omega)]; simp [go_sem]))); (try (have fg1 : w1.cell? ⟨wr.heap.size, 1, none⟩ = some (.int .i64 0) := (by rw [(bcell hbw1).1 _ _ (by first | (simp; done) | (simp; omega) | omega)]; simp [go_sem]))); (try (have fz : ∀ j, w1.frozen? ⟨wr.heap.size, j, none⟩ = false := (by intro j; rw [(bcell hbw1).2 _ _ (by first | (simp; done) | (simp; omega) | omega)]; simp [go_sem]))); (try (have fw : wr.heap.size < w1.heap.size := (by omega))); have fl : wr.heap.size ≤ w1.heap.size := (by omega); have pn0 : w1.heap.size ≠ w.heap.size := (by omega); have po0_0 : w.heap.size < w1.heap.size := (by omega); have po0_1 : w.heap.size < w1.heap.size + 1 := (by omega); have po0_2 : w.heap.size < w1.heap.size + 1 + 1 := (by omega); have pn1 : w1.heap.size ≠ w.heap.size + 1 := (by omega); have po1_0 : w.heap.size + 1 < w1.heap.size := (by omega); have po1_1 : w.heap.size + 1 < w1.heap.size + 1 := (by omega); have po1_2 : w.heap.size + 1 < w1.heap.size + 1 + 1 := (by omega); have pn2 : w1.heap.size ≠ c := (by omega); have po2_0 : c < w1.heap.size := (by omega); have po2_1 : c < w1.heap.size + 1 := (by omega); have po2_2 : c < w1.heap.size + 1 + 1 := (by omega)))
            all_goals
              go_wp2
              go_roundw
              case rel => exact ⟨k + 1, nx, by omega, rfl, by go_num, by omega, by omega, hN, (by (repeat (first | (with_reducible refine Below.drew ?_) | (with_reducible refine below_drewN ?_ _) | (with_reducible refine Below.alloc ?_ (by first | omega | (simp; done) | (simp; omega) | (simp at *; omega)) _) | (with_reducible refine Below.setCell ?_ (by first | omega | (simp; done) | (simp; omega) | (simp at *; omega)) _) | (with_reducible exact Below.refl _ _) | (with_reducible assumption) | (with_reducible refine Below.trans ?_ (Below.mono (by assumption) (by first | omega | (simp; done) | (simp; omega) | (simp at *; omega))))))), (by first | (simp; done) | (simp; omega) | omega), (by simp [go_sem, World.cell?_alloc_past, *]), (by simp [go_sem, World.cell?_alloc_past, *]), (by simp [go_sem, World.cell?_alloc_past, *]), (by simp [go_sem, World.cell?_alloc_past, *])⟩
              case measure => simp [intOf]; omega
          · cases iv
            · have hN : Hid ((nx = -1 ∧ ∀ j, (hj : j < k + 1) → (hj' : j < P.length) → brB P[j] s a b x = false) ∨ ∃ j, ∃ hj : j < P.length, brB P[j] s a b x = true ∧ nx = depH P[j].o P[j].h s a b + 1) := hno.out (by rw [hbr.out]; rfl)
              go_wp2
              go_region_held3 (fun w' => w'.cell? ⟨w.heap.size, 0, none⟩ = some (.int .i64 a) ∧ w'.cell? ⟨w.heap.size, 1, none⟩ = some (.int .i64 b) ∧ w'.cell? ⟨w.heap.size + 1, 0, none⟩ = some (.int .i64 lo) ∧ w'.cell? ⟨w.heap.size + 1, 1, none⟩ = some (.int .i64 hi) ∧ w'.cell? ⟨c, off + k * 2, none⟩ = some (.int .i64 po) ∧ w'.cell? ⟨c, off + k * 2 + 1, none⟩ = some (.int .i64 ph)) (simp [go_sem, World.cell?_alloc_past, *])
                (first | (go_at_call 33; ((with_reducible refine (refDepths_v po ph s a b u v true _ r1 r2 k3 k4 k5 k6 k7 k8 hPk hu hv hok).mono ?_)); rintro e w1 ⟨rfl, hbw1⟩; have z1 := hbw1.size; (try simp at z1); have f0 : w1.cell? ⟨w.heap.size, 0, none⟩ = some (.int .i64 a) := (by rw [(bcell hbw1).1 _ _ (by first | (simp; done) | (simp; omega) | omega)]; simp [go_sem, World.cell?_alloc_past, *]); have f1 : w1.cell? ⟨w.heap.size, 1, none⟩ = some (.int .i64 b) := (by rw [(bcell hbw1).1 _ _ (by first | (simp; done) | (simp; omega) | omega)]; simp [go_sem, World.cell?_alloc_past, *]); have f2 : w1.cell? ⟨w.heap.size + 1, 0, none⟩ = some (.int .i64 lo) := (by rw [(bcell hbw1).1 _ _ (by first | (simp; done) | (simp; omega) | omega)]; simp [go_sem, World.cell?_alloc_past, *]); have f3 : w1.cell? ⟨w.heap.size + 1, 1, none⟩ = some (.int .i64 hi) := (by rw [(bcell hbw1).1 _ _ (by first | (simp; done) | (simp; omega) | omega)]; simp [go_sem, World.cell?_alloc_past, *]); have fc0 : w1.cell? ⟨c, off + k * 2, none⟩ = some (.int .i64 po) := (by rw [(bcell hbw1).1 _ _ (by first | (simp; done) | (simp; omega) | omega)]; simp [go_sem, World.cell?_alloc_past, *]); have fc1 : w1.cell? ⟨c, off + k * 2 + 1, none⟩ = some (.int .i64 ph) := (by rw [(bcell hbw1).1 _ _ (by first | (simp; done) | (simp; omega) | omega)]; simp [go_sem, World.cell?_alloc_past, *]); (try (have fg0 : w1.cell? ⟨wr.heap.size, 0, none⟩ = some (.int .i64 0) := (by rw [(bcell hbw1).1 _ _ (by first | (simp; done) | (simp; omega) | omega)]; simp [go_sem]))); (try (have fg1 : w1.cell? ⟨wr.heap.size, 1, none⟩ = some (.int .i64 0) := (by rw [(bcell hbw1).1 _ _ (by first | (simp; done) | (simp; omega) | omega)]; simp [go_sem]))); (try (have fz : ∀ j, w1.frozen? ⟨wr.heap.size, j, none⟩ = false := (by intro j; rw [(bcell hbw1).2 _ _ (by first | (simp; done) | (simp; omega) | omega)]; simp [go_sem]))); (try (have fw : wr.heap.size < w1.heap.size := (by omega))); have fl : wr.heap.size ≤ w1.heap.size := (by omega); have pn0 : w1.heap.size ≠ w.heap.size := (by omega); have po0_0 : w.heap.size < w1.heap.size := (by omega); have po0_1 : w.heap.size < w1.heap.size + 1 := (by omega); have po0_2 : w.heap.size < w1.heap.size + 1 + 1 := (by omega); have pn1 : w1.heap.size ≠ w.heap.size + 1 := (by omega); have po1_0 : w.heap.size + 1 < w1.heap.size := (by omega); have po1_1 : w.heap.size + 1 < w1.heap.size + 1 := (by omega); have po1_2 : w.heap.size + 1 < w1.heap.size + 1 + 1 := (by omega); have pn2 : w1.heap.size ≠ c := (by omega); have po2_0 : c < w1.heap.size := (by omega); have po2_1 : c < w1.heap.size + 1 := (by omega); have po2_2 : c < w1.heap.size + 1 + 1 := (by omega)))
              all_goals
                go_wp2_with ((go_at_call 34; ((with_reducible refine (baseWithin_b x u v _ _ hin).mono ?_)); rintro e w' ⟨rfl, rfl⟩))
                go_roundw
                case rel => exact ⟨k + 1, nx, by omega, rfl, by go_num, by omega, by omega, hN, (by (repeat (first | (with_reducible refine Below.drew ?_) | (with_reducible refine below_drewN ?_ _) | (with_reducible refine Below.alloc ?_ (by first | omega | (simp; done) | (simp; omega) | (simp at *; omega)) _) | (with_reducible refine Below.setCell ?_ (by first | omega | (simp; done) | (simp; omega) | (simp at *; omega)) _) | (with_reducible exact Below.refl _ _) | (with_reducible assumption) | (with_reducible refine Below.trans ?_ (Below.mono (by assumption) (by first | omega | (simp; done) | (simp; omega) | (simp at *; omega))))))), (by first | (simp; done) | (simp; omega) | omega), (by simp [go_sem, World.cell?_alloc_past, *]), (by simp [go_sem, World.cell?_alloc_past, *]), (by simp [go_sem, World.cell?_alloc_past, *]), (by simp [go_sem, World.cell?_alloc_past, *])⟩
                case measure => simp [intOf]; omega
            · have hbt : brB P[k] s a b x = true := by rw [hbr.out]; rfl
              have hvx : Hid (depH P[k].o P[k].h s a b = v) := by show _ = _; rw [hrH.out hbt, ho.out]; exact hv.out
              have hvb := brB_bd hbt
              rw [hvx.out] at hvb
              by_cases hmx : nx ≤ v
              · have hmx2 : nx < v + 1 := by omega
                have hN : Hid ((v + 1 = -1 ∧ ∀ j, (hj : j < k + 1) → (hj' : j < P.length) → brB P[j] s a b x = false) ∨ ∃ j, ∃ hj : j < P.length, brB P[j] s a b x = true ∧ v + 1 = depH P[j].o P[j].h s a b + 1) := Or.inr ⟨k, hkl, hbt, by rw [hvx.out]⟩
                clear hbt
                go_wp2
                go_region_held3 (fun w' => w'.cell? ⟨w.heap.size, 0, none⟩ = some (.int .i64 a) ∧ w'.cell? ⟨w.heap.size, 1, none⟩ = some (.int .i64 b) ∧ w'.cell? ⟨w.heap.size + 1, 0, none⟩ = some (.int .i64 lo) ∧ w'.cell? ⟨w.heap.size + 1, 1, none⟩ = some (.int .i64 hi) ∧ w'.cell? ⟨c, off + k * 2, none⟩ = some (.int .i64 po) ∧ w'.cell? ⟨c, off + k * 2 + 1, none⟩ = some (.int .i64 ph)) (simp [go_sem, World.cell?_alloc_past, *])
                  (first | (go_at_call 33; ((with_reducible refine (refDepths_v po ph s a b u v true _ r1 r2 k3 k4 k5 k6 k7 k8 hPk hu hv hok).mono ?_)); rintro e w1 ⟨rfl, hbw1⟩; have z1 := hbw1.size; (try simp at z1); have f0 : w1.cell? ⟨w.heap.size, 0, none⟩ = some (.int .i64 a) := (by rw [(bcell hbw1).1 _ _ (by first | (simp; done) | (simp; omega) | omega)]; simp [go_sem, World.cell?_alloc_past, *]); have f1 : w1.cell? ⟨w.heap.size, 1, none⟩ = some (.int .i64 b) := (by rw [(bcell hbw1).1 _ _ (by first | (simp; done) | (simp; omega) | omega)]; simp [go_sem, World.cell?_alloc_past, *]); have f2 : w1.cell? ⟨w.heap.size + 1, 0, none⟩ = some (.int .i64 lo) := (by rw [(bcell hbw1).1 _ _ (by first | (simp; done) | (simp; omega) | omega)]; simp [go_sem, World.cell?_alloc_past, *]); have f3 : w1.cell? ⟨w.heap.size + 1, 1, none⟩ = some (.int .i64 hi) := (by rw [(bcell hbw1).1 _ _ (by first | (simp; done) | (simp; omega) | omega)]; simp [go_sem, World.cell?_alloc_past, *]); have fc0 : w1.cell? ⟨c, off + k * 2, none⟩ = some (.int .i64 po) := (by rw [(bcell hbw1).1 _ _ (by first | (simp; done) | (simp; omega) | omega)]; simp [go_sem, World.cell?_alloc_past, *]); have fc1 : w1.cell? ⟨c, off + k * 2 + 1, none⟩ = some (.int .i64 ph) := (by rw [(bcell hbw1).1 _ _ (by first | (simp; done) | (simp; omega) | omega)]; simp [go_sem, World.cell?_alloc_past, *]); (try (have fg0 : w1.cell? ⟨wr.heap.size, 0, none⟩ = some (.int .i64 0) := (by rw [(bcell hbw1).1 _ _ (by first | (simp; done) | (simp; omega) | omega)]; simp [go_sem]))); (try (have fg1 : w1.cell? ⟨wr.heap.size, 1, none⟩ = some (.int .i64 0) := (by rw [(bcell hbw1).1 _ _ (by first | (simp; done) | (simp; omega) | omega)]; simp [go_sem]))); (try (have fz : ∀ j, w1.frozen? ⟨wr.heap.size, j, none⟩ = false := (by intro j; rw [(bcell hbw1).2 _ _ (by first | (simp; done) | (simp; omega) | omega)]; simp [go_sem]))); (try (have fw : wr.heap.size < w1.heap.size := (by omega))); have fl : wr.heap.size ≤ w1.heap.size := (by omega); have pn0 : w1.heap.size ≠ w.heap.size := (by omega); have po0_0 : w.heap.size < w1.heap.size := (by omega); have po0_1 : w.heap.size < w1.heap.size + 1 := (by omega); have po0_2 : w.heap.size < w1.heap.size + 1 + 1 := (by omega); have pn1 : w1.heap.size ≠ w.heap.size + 1 := (by omega); have po1_0 : w.heap.size + 1 < w1.heap.size := (by omega); have po1_1 : w.heap.size + 1 < w1.heap.size + 1 := (by omega); have po1_2 : w.heap.size + 1 < w1.heap.size + 1 + 1 := (by omega); have pn2 : w1.heap.size ≠ c := (by omega); have po2_0 : c < w1.heap.size := (by omega); have po2_1 : c < w1.heap.size + 1 := (by omega); have po2_2 : c < w1.heap.size + 1 + 1 := (by omega)))
                all_goals
                  go_wp2_with ((go_at_call 34; ((with_reducible refine (baseWithin_b x u v _ _ hin).mono ?_)); rintro e w' ⟨rfl, rfl⟩))
                  go_roundw
                  case rel => exact ⟨k + 1, v + 1, by omega, rfl, by go_num, by omega, by omega, hN, (by (repeat (first | (with_reducible refine Below.drew ?_) | (with_reducible refine below_drewN ?_ _) | (with_reducible refine Below.alloc ?_ (by first | omega | (simp; done) | (simp; omega) | (simp at *; omega)) _) | (with_reducible refine Below.setCell ?_ (by first | omega | (simp; done) | (simp; omega) | (simp at *; omega)) _) | (with_reducible exact Below.refl _ _) | (with_reducible assumption) | (with_reducible refine Below.trans ?_ (Below.mono (by assumption) (by first | omega | (simp; done) | (simp; omega) | (simp at *; omega))))))), (by first | (simp; done) | (simp; omega) | omega), (by simp [go_sem, World.cell?_alloc_past, *]), (by simp [go_sem, World.cell?_alloc_past, *]), (by simp [go_sem, World.cell?_alloc_past, *]), (by simp [go_sem, World.cell?_alloc_past, *])⟩
                  case measure => simp [intOf]; omega
              · have hmx2 : ¬ nx < v + 1 := by omega
                have hN : Hid ((nx = -1 ∧ ∀ j, (hj : j < k + 1) → (hj' : j < P.length) → brB P[j] s a b x = false) ∨ ∃ j, ∃ hj : j < P.length, brB P[j] s a b x = true ∧ nx = depH P[j].o P[j].h s a b + 1) := by
                  rcases hJ.out with ⟨e, h⟩ | h
                  · exfalso; omega
                  · exact Or.inr h
                clear hbt
                go_wp2
                go_region_held3 (fun w' => w'.cell? ⟨w.heap.size, 0, none⟩ = some (.int .i64 a) ∧ w'.cell? ⟨w.heap.size, 1, none⟩ = some (.int .i64 b) ∧ w'.cell? ⟨w.heap.size + 1, 0, none⟩ = some (.int .i64 lo) ∧ w'.cell? ⟨w.heap.size + 1, 1, none⟩ = some (.int .i64 hi) ∧ w'.cell? ⟨c, off + k * 2, none⟩ = some (.int .i64 po) ∧ w'.cell? ⟨c, off + k * 2 + 1, none⟩ = some (.int .i64 ph)) (simp [go_sem, World.cell?_alloc_past, *])
                  (first | (go_at_call 33; ((with_reducible refine (refDepths_v po ph s a b u v true _ r1 r2 k3 k4 k5 k6 k7 k8 hPk hu hv hok).mono ?_)); rintro e w1 ⟨rfl, hbw1⟩; have z1 := hbw1.size; (try simp at z1); have f0 : w1.cell? ⟨w.heap.size, 0, none⟩ = some (.int .i64 a) := (by rw [(bcell hbw1).1 _ _ (by first | (simp; done) | (simp; omega) | omega)]; simp [go_sem, World.cell?_alloc_past, *]); have f1 : w1.cell? ⟨w.heap.size, 1, none⟩ = some (.int .i64 b) := (by rw [(bcell hbw1).1 _ _ (by first | (simp; done) | (simp; omega) | omega)]; simp [go_sem, World.cell?_alloc_past, *]); have f2 : w1.cell? ⟨w.heap.size + 1, 0, none⟩ = some (.int .i64 lo) := (by rw [(bcell hbw1).1 _ _ (by first | (simp; done) | (simp; omega) | omega)]; simp [go_sem, World.cell?_alloc_past, *]); have f3 : w1.cell? ⟨w.heap.size + 1, 1, none⟩ = some (.int .i64 hi) := (by rw [(bcell hbw1).1 _ _ (by first | (simp; done) | (simp; omega) | omega)]; simp [go_sem, World.cell?_alloc_past, *]); have fc0 : w1.cell? ⟨c, off + k * 2, none⟩ = some (.int .i64 po) := (by rw [(bcell hbw1).1 _ _ (by first | (simp; done) | (simp; omega) | omega)]; simp [go_sem, World.cell?_alloc_past, *]); have fc1 : w1.cell? ⟨c, off + k * 2 + 1, none⟩ = some (.int .i64 ph) := (by rw [(bcell hbw1).1 _ _ (by first | (simp; done) | (simp; omega) | omega)]; simp [go_sem, World.cell?_alloc_past, *]); (try (have fg0 : w1.cell? ⟨wr.heap.size, 0, none⟩ = some (.int .i64 0) := (by rw [(bcell hbw1).1 _ _ (by first | (simp; done) | (simp; omega) | omega)]; simp [go_sem]))); (try (have fg1 : w1.cell? ⟨wr.heap.size, 1, none⟩ = some (.int .i64 0) := (by rw [(bcell hbw1).1 _ _ (by first | (simp; done) | (simp; omega) | omega)]; simp [go_sem]))); (try (have fz : ∀ j, w1.frozen? ⟨wr.heap.size, j, none⟩ = false := (by intro j; rw [(bcell hbw1).2 _ _ (by first | (simp; done) | (simp; omega) | omega)]; simp [go_sem]))); (try (have fw : wr.heap.size < w1.heap.size := (by omega))); have fl : wr.heap.size ≤ w1.heap.size := (by omega); have pn0 : w1.heap.size ≠ w.heap.size := (by omega); have po0_0 : w.heap.size < w1.heap.size := (by omega); have po0_1 : w.heap.size < w1.heap.size + 1 := (by omega); have po0_2 : w.heap.size < w1.heap.size + 1 + 1 := (by omega); have pn1 : w1.heap.size ≠ w.heap.size + 1 := (by omega); have po1_0 : w.heap.size + 1 < w1.heap.size := (by omega); have po1_1 : w.heap.size + 1 < w1.heap.size + 1 := (by omega); have po1_2 : w.heap.size + 1 < w1.heap.size + 1 + 1 := (by omega); have pn2 : w1.heap.size ≠ c := (by omega); have po2_0 : c < w1.heap.size := (by omega); have po2_1 : c < w1.heap.size + 1 := (by omega); have po2_2 : c < w1.heap.size + 1 + 1 := (by omega)))
                all_goals
                  go_wp2_with ((go_at_call 34; ((with_reducible refine (baseWithin_b x u v _ _ hin).mono ?_)); rintro e w' ⟨rfl, rfl⟩))
                  go_roundw
                  case rel => exact ⟨k + 1, nx, by omega, rfl, by go_num, by omega, by omega, hN, (by (repeat (first | (with_reducible refine Below.drew ?_) | (with_reducible refine below_drewN ?_ _) | (with_reducible refine Below.alloc ?_ (by first | omega | (simp; done) | (simp; omega) | (simp at *; omega)) _) | (with_reducible refine Below.setCell ?_ (by first | omega | (simp; done) | (simp; omega) | (simp at *; omega)) _) | (with_reducible exact Below.refl _ _) | (with_reducible assumption) | (with_reducible refine Below.trans ?_ (Below.mono (by assumption) (by first | omega | (simp; done) | (simp; omega) | (simp at *; omega))))))), (by first | (simp; done) | (simp; omega) | omega), (by simp [go_sem, World.cell?_alloc_past, *]), (by simp [go_sem, World.cell?_alloc_past, *]), (by simp [go_sem, World.cell?_alloc_past, *]), (by simp [go_sem, World.cell?_alloc_past, *])⟩
                  case measure => simp [intOf]; omega
        · have hkk : k = P.length := by omega
          rcases hJ.out with ⟨e, h⟩ | ⟨j, hj, hjb, e⟩
          · have hG : IsGap P s a b lo hi x := ⟨x1, hxh, by
              rintro ⟨j, hj, hjb⟩
              have := h j (by omega) hj
              rw [this] at hjb; exact absurd hjb (by decide), hx.out⟩
            have hgx : Hid (g = x) := by
              rcases hg.out with h2 | ⟨_, h2⟩
              · exact h2.same hG
              · exact (hG.no h2).elim
            have hn0 : nx < 0 := by omega
            clear e h hkk hG
            go_wp2
            go_ret
            exact ⟨ret_int hgx.out.symm, (by (repeat (first | (with_reducible refine Below.drew ?_) | (with_reducible refine below_drewN ?_ _) | (with_reducible refine Below.alloc ?_ (by first | omega | (simp; done) | (simp; omega) | (simp at *; omega)) _) | (with_reducible refine Below.setCell ?_ (by first | omega | (simp; done) | (simp; omega) | (simp at *; omega)) _) | (with_reducible exact Below.refl _ _) | (with_reducible assumption) | (with_reducible refine Below.trans ?_ (Below.mono (by assumption) (by first | omega | (simp; done) | (simp; omega) | (simp at *; omega)))))))⟩
          · have u1 := brB_bd hjb
            have hx2 : Hid (∀ y, lo ≤ y → y < nx → brAny P s a b y) := fun y h1 h2 => by
              by_cases cc : y < x
              · exact hx.out y h1 cc
              · exact ⟨j, hj, brB_up hjb (by omega) (by omega)⟩
            have hnx : x < nx := by omega
            have hn0 : ¬ nx < 0 := by omega
            clear e hjb u1 hkk
            go_wp2
            go_roundw
            case rel => exact ⟨nx, rfl, by omega, by omega, hx2, hB, hsz, q0, q1, q2, q3⟩
            case measure => simp [intOf]; omega
    · have hG : NoGap P s a b lo hi := fun y h1 h2 => hx.out y h1 (by omega)
      have hgx : Hid (g = -1) := by
        rcases hg.out with h2 | ⟨h2, _⟩
        · exact (h2.no hG).elim
        · exact h2
      clear hG
      go_wp2
      go_ret
      exact ⟨ret_int hgx.out.symm, (by (repeat (first | (with_reducible refine Below.drew ?_) | (with_reducible refine below_drewN ?_ _) | (with_reducible refine Below.alloc ?_ (by first | omega | (simp; done) | (simp; omega) | (simp at *; omega)) _) | (with_reducible refine Below.setCell ?_ (by first | omega | (simp; done) | (simp; omega) | (simp at *; omega)) _) | (with_reducible exact Below.refl _ _) | (with_reducible assumption) | (with_reducible refine Below.trans ?_ (Below.mono (by assumption) (by first | omega | (simp; done) | (simp; omega) | (simp at *; omega)))))))⟩
set_option maxHeartbeats 2000000 in
theorem refFirstGap_nil (A : Option Addr) (cap : Nat) (s a b lo hi : Int) (w : World) (d5 : lo ≤ hi) :
    Calls Tryd.prog 53 #[.slice A 0 cap, .int .i64 s, .agg #[.int .i64 a, .int .i64 b], .agg #[.int .i64 lo, .int .i64 hi]] w fun e w' => e = .returned (.int .i64 lo) ∧ Below w.heap.size w w' := by
  go_enter Tryd.func53, Tryd.ntmps53
  go_wp2
  go_loopw [9] (fun t wr => t = .int .i64 lo ∧ Below w.heap.size w wr ∧ w.heap.size + 2 ≤ wr.heap.size ∧ wr.cell? ⟨w.heap.size, 0, none⟩ = some (.int .i64 a) ∧ wr.cell? ⟨w.heap.size, 1, none⟩ = some (.int .i64 b) ∧ wr.cell? ⟨w.heap.size + 1, 0, none⟩ = some (.int .i64 lo) ∧ wr.cell? ⟨w.heap.size + 1, 1, none⟩ = some (.int .i64 hi)) (fun t _ => 1)
  case atStart => exact ⟨rfl, (by (repeat (first | (with_reducible refine Below.drew ?_) | (with_reducible refine below_drewN ?_ _) | (with_reducible refine Below.alloc ?_ (by first | omega | (simp; done) | (simp; omega) | (simp at *; omega)) _) | (with_reducible refine Below.setCell ?_ (by first | omega | (simp; done) | (simp; omega) | (simp at *; omega)) _) | (with_reducible exact Below.refl _ _) | (with_reducible assumption) | (with_reducible refine Below.trans ?_ (Below.mono (by assumption) (by first | omega | (simp; done) | (simp; omega) | (simp at *; omega))))))), by simp, (by simp [go_sem, World.cell?_alloc_past, *]), (by simp [go_sem, World.cell?_alloc_past, *]), (by simp [go_sem, World.cell?_alloc_past, *]), (by simp [go_sem, World.cell?_alloc_past, *])⟩
  case round =>
    obtain ⟨rfl, hB, hsz, q0, q1, q2, q3⟩ := hrel
    obtain ⟨wo, rfl⟩ : ∃ wo : World, wo = wr := ⟨_, rfl⟩
    go_wp2
    go_loopw [10, 11] (fun t i wr => t = .int .i64 (-1) ∧ i = .int .i64 0 ∧ Below w.heap.size w wr) (fun _ i _ => 1)
    case atStart => exact ⟨rfl, rfl, hB⟩
    case round =>
      clear hB
      obtain ⟨rfl, rfl, hB⟩ := hrel
      go_wp2
      go_ret
      exact ⟨rfl, (by (repeat (first | (with_reducible refine Below.drew ?_) | (with_reducible refine below_drewN ?_ _) | (with_reducible refine Below.alloc ?_ (by first | omega | (simp; done) | (simp; omega) | (simp at *; omega)) _) | (with_reducible refine Below.setCell ?_ (by first | omega | (simp; done) | (simp; omega) | (simp at *; omega)) _) | (with_reducible exact Below.refl _ _) | (with_reducible assumption) | (with_reducible refine Below.trans ?_ (Below.mono (by assumption) (by first | omega | (simp; done) | (simp; omega) | (simp at *; omega)))))))⟩
theorem refFirstGap_any (P : List Gs) (A : Option Addr) (cap : Nat) (s a b lo hi : Int) (w : World) (hl : P.length ≤ 1000000) (hS : SlAt w A P) (hE : Hid (gapE P s a b lo hi = 0)) (g : Int) (hg : Hid (IsGap P s a b lo hi g ∨ (g = -1 ∧ NoGap P s a b lo hi))) :
    Calls Tryd.prog 53 #[.slice A P.length cap, .int .i64 s, .agg #[.int .i64 a, .int .i64 b], .agg #[.int .i64 lo, .int .i64 hi]] w fun e w' => e = .returned (.int .i64 g) ∧ Below w.heap.size w w' := by
  obtain ⟨z1, z2, z3, z4⟩ := firE4_z (show firE [gasesE P, rngE s 400 1100, limE a b, rdE lo hi] = 0 from hE.out)
  obtain ⟨k3, k4⟩ := rngE_z z2
  obtain ⟨k5, k6, k7, k8, _⟩ := limE_z z3
  obtain ⟨d1, d2, d3, d4, d5⟩ := rdE_z z4
  rcases hS with rfl | ⟨c, off, rfl, hlt, hP⟩
  · have h0 : IsGap [] s a b lo hi lo := ⟨Int.le_refl _, d5, (by rintro ⟨j, hj, _⟩; simp at hj), fun y h1 h2 => by omega⟩
    have hgl : g = lo := by
      rcases hg.out with h2 | ⟨_, h2⟩
      · exact h2.same h0
      · exact (h0.no h2).elim
    rw [hgl]
    exact refFirstGap_nil A cap s a b lo hi w d5
  · have hR := (gasesE_zz z1)
    exact refFirstGap_ne P c off cap s a b lo hi w hl hlt hP k3 k4 k5 k6 k7 k8 d1 d2 d3 d4 d5 (fun k hk => ⟨(hR k hk).1, (hR k hk).2.1⟩) (fun k hk => by
      obtain ⟨r1, r2, r3, r4, r5⟩ := hR k hk
      unfold depP
      rw [show gasE P[k].o P[k].h = 0 by unfold gasE; rw [if_pos ⟨inB_true r1 r2, inB_true r3 r4⟩, if_pos r5], z2, z3]; rfl) g hg
end Go.Proofs.YtebieflnlmdllaaDoor
