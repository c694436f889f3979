/- What gas.DepthsFor returns. -/
import Derived.Test.YtpagbkbaphjmdaaDoorLeaf
namespace Go.Proofs.YtpagbkbaphjmdaaDoor
open Go.ChangeShapes Go.WideShapes Go.ChangeAt Go.RowKit
set_option linter.unusedVariables false

def depP (o h s a b : Int) : Int := firE [gasE o h, rngE s 400 1100, limE a b]
def depLo (o s a : Int) : Int := if s < (1000 * a + o - 1) / o then (1000 * a + o - 1) / o - s else 0
def depHi (o s b : Int) : Int := if 1000 * b / o - s < 30000 then 1000 * b / o - s else 30000
theorem depLo_cases (o s a : Int) : (s < (1000 * a + o - 1) / o ∧ Hid (depLo o s a = (1000 * a + o - 1) / o - s)) ∨ (¬ s < (1000 * a + o - 1) / o ∧ Hid (depLo o s a = 0)) := by
  unfold depLo Hid
  by_cases c : s < (1000 * a + o - 1) / o
  · exact Or.inl ⟨c, if_pos c⟩
  · exact Or.inr ⟨c, if_neg c⟩
theorem depHi_cases (o s b : Int) : (1000 * b / o - s < 30000 ∧ Hid (depHi o s b = 1000 * b / o - s)) ∨ (¬ 1000 * b / o - s < 30000 ∧ Hid (depHi o s b = 30000)) := by
  unfold depHi Hid
  by_cases c : 1000 * b / o - s < 30000
  · exact Or.inl ⟨c, if_pos c⟩
  · exact Or.inr ⟨c, if_neg c⟩
def depE (o h s a b : Int) : Int := if depP o h s a b = 0 then (if o = 0 then 12 else if depLo o s a ≤ depHi o s b then 0 else 12) else depP o h s a b
def depL (o h s a b : Int) : Int := if depE o h s a b = 0 then depLo o s a else 0
def depH (o h s a b : Int) : Int := if depE o h s a b = 0 then depHi o s b else 0
/-- What is right where no error is found. -/
theorem firE3_z {x y z : Int} (h : firE [x, y, z] = 0) : x = 0 ∧ y = 0 ∧ z = 0 := by
  simp only [firE] at h
  split at h
  · split at h
    · split at h
      · exact ⟨‹_›, ‹_›, ‹_›⟩
      · exact absurd h ‹_›
    · exact absurd h ‹_›
  · exact absurd h ‹_›
theorem firE2_z {x y : Int} (h : firE [x, y] = 0) : x = 0 ∧ y = 0 := by
  simp only [firE] at h
  split at h
  · split at h
    · exact ⟨‹_›, ‹_›⟩
    · exact absurd h ‹_›
  · exact absurd h ‹_›
theorem firE4_z {x y z u : Int} (h : firE [x, y, z, u] = 0) : x = 0 ∧ y = 0 ∧ z = 0 ∧ u = 0 := by
  simp only [firE] at h
  split at h
  · split at h
    · split at h
      · split at h
        · exact ⟨‹_›, ‹_›, ‹_›, ‹_›⟩
        · exact absurd h ‹_›
      · exact absurd h ‹_›
    · exact absurd h ‹_›
  · exact absurd h ‹_›
theorem rngE_z {n a b : Int} (h : rngE n a b = 0) : a ≤ n ∧ n ≤ b := by
  rcases inB_cases n a b with k | k
  · exact inB_iff.1 k
  · rw [rngE_f k] at h; omega
theorem gasE_z {o h : Int} (k : gasE o h = 0) : 0 ≤ o ∧ o ≤ 1000 ∧ 0 ≤ h ∧ h ≤ 1000 ∧ o + h ≤ 1000 := by
  unfold gasE at k
  split at k
  · obtain ⟨k1, k2⟩ := ‹_ ∧ _›
    have := inB_iff.1 k1
    have := inB_iff.1 k2
    split at k <;> omega
  · omega
theorem limE_z {a b : Int} (k : limE a b = 0) : 1 ≤ a ∧ a ≤ 4000 ∧ 1 ≤ b ∧ b ≤ 4000 ∧ a ≤ b := by
  unfold limE at k
  split at k
  · obtain ⟨k1, k2⟩ := firE2_z (x := rngE a 1 4000) (y := rngE b 1 4000) ‹_›
    have := rngE_z k1
    have := rngE_z k2
    split at k <;> omega
  · exact absurd k ‹_›
theorem depP_z {o h s a b : Int} (k : depP o h s a b = 0) : (0 ≤ o ∧ o ≤ 1000 ∧ 0 ≤ h ∧ h ≤ 1000 ∧ o + h ≤ 1000) ∧ (400 ≤ s ∧ s ≤ 1100) ∧ 1 ≤ a ∧ a ≤ 4000 ∧ 1 ≤ b ∧ b ≤ 4000 ∧ a ≤ b := by
  obtain ⟨k1, k2, k3⟩ := firE3_z (show firE [gasE o h, rngE s 400 1100, limE a b] = 0 from k)
  exact ⟨gasE_z k1, rngE_z k2, limE_z k3⟩

theorem DepthsFor_t1 (o h s a b : Int) (w : World) (hb : (depP o h s a b != 0) = true) :
    Calls Tryd.prog 13 #[.agg #[.int .i64 o, .int .i64 h], .int .i64 s, .agg #[.int .i64 a, .int .i64 b]] w fun e w' => e = .returned (.tuple #[.agg #[.int .i64 0, .int .i64 0], .int .i64 (depP o h s a b)]) ∧ Below w.heap.size w w' := by
  unfold depP at hb
  go_enter Tryd.func13, Tryd.ntmps13
  go_wp2
  go_region_held3 (fun w' => w'.cell? ⟨w.heap.size, 0, none⟩ = some (.int .i64 o) ∧ w'.cell? ⟨w.heap.size, 1, none⟩ = some (.int .i64 h) ∧ w'.cell? ⟨w.heap.size + 1, 0, none⟩ = some (.int .i64 a) ∧ w'.cell? ⟨w.heap.size + 1, 1, none⟩ = some (.int .i64 b)) (simp [go_sem, World.cell?_alloc_past]) (first | (go_at_call 10; ((with_reducible refine (CheckGas_any _ _ _).mono ?_)); rintro e w' ⟨rfl, rfl⟩) | (go_at_call 26; ((with_reducible refine (checkSurface_any _ _).mono ?_)); rintro e w' ⟨rfl, rfl⟩) | (go_at_call 27; ((with_reducible refine (CheckLimits_any _ _ _).mono ?_)); rintro e w' ⟨rfl, rfl⟩) | (go_at_call 25; ((with_reducible refine (firstOf3c (gasE o h) (rngE s 400 1100) (limE a b) _ _ (by simp [go_sem]) (by simp [go_sem]) (by simp [go_sem])).mono ?_)); rintro e w' ⟨rfl, rfl⟩))
  go_wp2
  refine bodyPost_ret (v := .tuple #[.agg #[.int .i64 0, .int .i64 0], .int .i64 (depP o h s a b)]) (by simp [results, Tryd.results13, go_sem]; rfl) rfl ⟨rfl, (by (repeat (first | (with_reducible refine Below.drew ?_) | (with_reducible refine below_drewN ?_ _) | (with_reducible refine Below.alloc ?_ (by first | omega | (simp; done) | (simp; omega) | (simp at *; omega)) _) | (with_reducible refine Below.setCell ?_ (by first | omega | (simp; done) | (simp; omega) | (simp at *; omega)) _) | (with_reducible exact Below.refl _ _) | (with_reducible assumption) | (with_reducible refine Below.trans ?_ (Below.mono (by assumption) (by first | omega | (simp; done) | (simp; omega) | (simp at *; omega)))))))⟩
theorem DepthsFor_t2 (h s a b : Int) (w : World) (hb : (depP 0 h s a b != 0) = false) :
    Calls Tryd.prog 13 #[.agg #[.int .i64 0, .int .i64 h], .int .i64 s, .agg #[.int .i64 a, .int .i64 b]] w fun e w' => e = .returned (.tuple #[.agg #[.int .i64 0, .int .i64 0], .int .i64 12]) ∧ Below w.heap.size w w' := by
  obtain ⟨o, HO⟩ : ∃ o : Int, Hid (o = 0) := ⟨0, rfl⟩
  rw [← HO.out] at hb ⊢
  have ho : (o == 0) = true := by simp [HO.out]
  unfold depP at hb
  go_enter Tryd.func13, Tryd.ntmps13
  go_wp2
  go_region_held3 (fun w' => w'.cell? ⟨w.heap.size, 0, none⟩ = some (.int .i64 o) ∧ w'.cell? ⟨w.heap.size, 1, none⟩ = some (.int .i64 h) ∧ w'.cell? ⟨w.heap.size + 1, 0, none⟩ = some (.int .i64 a) ∧ w'.cell? ⟨w.heap.size + 1, 1, none⟩ = some (.int .i64 b)) (simp [go_sem, World.cell?_alloc_past]) (first | (go_at_call 10; ((with_reducible refine (CheckGas_any _ _ _).mono ?_)); rintro e w' ⟨rfl, rfl⟩) | (go_at_call 26; ((with_reducible refine (checkSurface_any _ _).mono ?_)); rintro e w' ⟨rfl, rfl⟩) | (go_at_call 27; ((with_reducible refine (CheckLimits_any _ _ _).mono ?_)); rintro e w' ⟨rfl, rfl⟩) | (go_at_call 25; ((with_reducible refine (firstOf3c (gasE o h) (rngE s 400 1100) (limE a b) _ _ (by simp [go_sem]) (by simp [go_sem]) (by simp [go_sem])).mono ?_)); rintro e w' ⟨rfl, rfl⟩))
  go_wp2
  refine bodyPost_ret (v := .tuple #[.agg #[.int .i64 0, .int .i64 0], .int .i64 12]) (by simp [results, Tryd.results13, go_sem, HO.out]) rfl ⟨by rw [HO.out], (by (repeat (first | (with_reducible refine Below.drew ?_) | (with_reducible refine below_drewN ?_ _) | (with_reducible refine Below.alloc ?_ (by first | omega | (simp; done) | (simp; omega) | (simp at *; omega)) _) | (with_reducible refine Below.setCell ?_ (by first | omega | (simp; done) | (simp; omega) | (simp at *; omega)) _) | (with_reducible exact Below.refl _ _) | (with_reducible assumption) | (with_reducible refine Below.trans ?_ (Below.mono (by assumption) (by first | omega | (simp; done) | (simp; omega) | (simp at *; omega)))))))⟩
set_option maxHeartbeats 1000000 in
theorem DepthsFor_t3 (o h s a b : Int) (w : World) (hb : (depP o h s a b != 0) = false) (k1 : 1 ≤ o) (k2 : o ≤ 1000) (k3 : 400 ≤ s) (k4 : s ≤ 1100) (k5 : 1 ≤ a) (k6 : a ≤ 4000) (k7 : 1 ≤ b) (k8 : b ≤ 4000) (c3 : depLo o s a ≤ depHi o s b) :
    Calls Tryd.prog 13 #[.agg #[.int .i64 o, .int .i64 h], .int .i64 s, .agg #[.int .i64 a, .int .i64 b]] w fun e w' => e = .returned (.tuple #[.agg #[.int .i64 (depLo o s a), .int .i64 (depHi o s b)], .int .i64 0]) ∧ Below w.heap.size w w' := by
  unfold depP at hb
  have r0 := rng_lo
  have r1 := rng_hi
  have ho : (o == 0) = false := by simp; omega
  have q1 : 0 ≤ (1000 * a + o - 1) / o := Int.ediv_nonneg (by omega) (by omega)
  have q2 : (1000 * a + o - 1) / o ≤ 1000 * a + o - 1 := Int.ediv_le_self _ (by omega)
  have q3 : 0 ≤ 1000 * b / o := Int.ediv_nonneg (by omega) (by omega)
  have q4 : 1000 * b / o ≤ 1000 * b := Int.ediv_le_self _ (by omega)
  rcases depLo_cases o s a with ⟨c1, e1⟩ | ⟨c1, e1⟩ <;> rcases depHi_cases o s b with ⟨c2, e2⟩ | ⟨c2, e2⟩
  all_goals
    rw [e1.out, e2.out] at c3
    rw [e1.out, e2.out]
    go_enter Tryd.func13, Tryd.ntmps13
    go_wp2
    go_region_held3 (fun w' => w'.cell? ⟨w.heap.size, 0, none⟩ = some (.int .i64 o) ∧ w'.cell? ⟨w.heap.size, 1, none⟩ = some (.int .i64 h) ∧ w'.cell? ⟨w.heap.size + 1, 0, none⟩ = some (.int .i64 a) ∧ w'.cell? ⟨w.heap.size + 1, 1, none⟩ = some (.int .i64 b)) (simp [go_sem, World.cell?_alloc_past]) (first | (go_at_call 10; ((with_reducible refine (CheckGas_any _ _ _).mono ?_)); rintro e w' ⟨rfl, rfl⟩) | (go_at_call 26; ((with_reducible refine (checkSurface_any _ _).mono ?_)); rintro e w' ⟨rfl, rfl⟩) | (go_at_call 27; ((with_reducible refine (CheckLimits_any _ _ _).mono ?_)); rintro e w' ⟨rfl, rfl⟩) | (go_at_call 25; ((with_reducible refine (firstOf3c (gasE o h) (rngE s 400 1100) (limE a b) _ _ (by simp [go_sem]) (by simp [go_sem]) (by simp [go_sem])).mono ?_)); rintro e w' ⟨rfl, rfl⟩))
    go_wp2_with ((go_at_call 28; ((with_reducible refine (enclose_any _ _ _ (by omega) (by omega) (by omega) (by omega)).mono ?_)); rintro e w' ⟨rfl, rfl⟩))
    refine bodyPost_ret (v := .tuple #[.agg #[.int .i64 _, .int .i64 _], .int .i64 0]) (by simp [results, Tryd.results13, go_sem]) rfl ⟨rfl, (by (repeat (first | (with_reducible refine Below.drew ?_) | (with_reducible refine below_drewN ?_ _) | (with_reducible refine Below.alloc ?_ (by first | omega | (simp; done) | (simp; omega) | (simp at *; omega)) _) | (with_reducible refine Below.setCell ?_ (by first | omega | (simp; done) | (simp; omega) | (simp at *; omega)) _) | (with_reducible exact Below.refl _ _) | (with_reducible assumption) | (with_reducible refine Below.trans ?_ (Below.mono (by assumption) (by first | omega | (simp; done) | (simp; omega) | (simp at *; omega)))))))⟩
set_option maxHeartbeats 1000000 in
theorem DepthsFor_t4 (o h s a b : Int) (w : World) (hb : (depP o h s a b != 0) = false) (k1 : 1 ≤ o) (k2 : o ≤ 1000) (k3 : 400 ≤ s) (k4 : s ≤ 1100) (k5 : 1 ≤ a) (k6 : a ≤ 4000) (k7 : 1 ≤ b) (k8 : b ≤ 4000) (c3 : ¬ depLo o s a ≤ depHi o s b) :
    Calls Tryd.prog 13 #[.agg #[.int .i64 o, .int .i64 h], .int .i64 s, .agg #[.int .i64 a, .int .i64 b]] w fun e w' => e = .returned (.tuple #[.agg #[.int .i64 0, .int .i64 0], .int .i64 12]) ∧ Below w.heap.size w w' := by
  unfold depP at hb
  have r0 := rng_lo
  have r1 := rng_hi
  have ho : (o == 0) = false := by simp; omega
  have q1 : 0 ≤ (1000 * a + o - 1) / o := Int.ediv_nonneg (by omega) (by omega)
  have q2 : (1000 * a + o - 1) / o ≤ 1000 * a + o - 1 := Int.ediv_le_self _ (by omega)
  have q3 : 0 ≤ 1000 * b / o := Int.ediv_nonneg (by omega) (by omega)
  have q4 : 1000 * b / o ≤ 1000 * b := Int.ediv_le_self _ (by omega)
  rcases depLo_cases o s a with ⟨c1, e1⟩ | ⟨c1, e1⟩ <;> rcases depHi_cases o s b with ⟨c2, e2⟩ | ⟨c2, e2⟩
  all_goals rw [e1.out, e2.out] at c3
  all_goals try (exfalso; omega)
  all_goals
    go_enter Tryd.func13, Tryd.ntmps13
    go_wp2
    go_region_held3 (fun w' => w'.cell? ⟨w.heap.size, 0, none⟩ = some (.int .i64 o) ∧ w'.cell? ⟨w.heap.size, 1, none⟩ = some (.int .i64 h) ∧ w'.cell? ⟨w.heap.size + 1, 0, none⟩ = some (.int .i64 a) ∧ w'.cell? ⟨w.heap.size + 1, 1, none⟩ = some (.int .i64 b)) (simp [go_sem, World.cell?_alloc_past]) (first | (go_at_call 10; ((with_reducible refine (CheckGas_any _ _ _).mono ?_)); rintro e w' ⟨rfl, rfl⟩) | (go_at_call 26; ((with_reducible refine (checkSurface_any _ _).mono ?_)); rintro e w' ⟨rfl, rfl⟩) | (go_at_call 27; ((with_reducible refine (CheckLimits_any _ _ _).mono ?_)); rintro e w' ⟨rfl, rfl⟩) | (go_at_call 25; ((with_reducible refine (firstOf3c (gasE o h) (rngE s 400 1100) (limE a b) _ _ (by simp [go_sem]) (by simp [go_sem]) (by simp [go_sem])).mono ?_)); rintro e w' ⟨rfl, rfl⟩))
    go_wp2_with ((go_at_call 28; ((with_reducible refine (enclose_any _ _ _ (by omega) (by omega) (by omega) (by omega)).mono ?_)); rintro e w' ⟨rfl, rfl⟩))
    refine bodyPost_ret (v := .tuple #[.agg #[.int .i64 0, .int .i64 0], .int .i64 12]) (by simp [results, Tryd.results13, go_sem]) rfl ⟨rfl, (by (repeat (first | (with_reducible refine Below.drew ?_) | (with_reducible refine below_drewN ?_ _) | (with_reducible refine Below.alloc ?_ (by first | omega | (simp; done) | (simp; omega) | (simp at *; omega)) _) | (with_reducible refine Below.setCell ?_ (by first | omega | (simp; done) | (simp; omega) | (simp at *; omega)) _) | (with_reducible exact Below.refl _ _) | (with_reducible assumption) | (with_reducible refine Below.trans ?_ (Below.mono (by assumption) (by first | omega | (simp; done) | (simp; omega) | (simp at *; omega)))))))⟩
theorem DepthsFor_any (o h s a b : Int) (w : World) :
    Calls Tryd.prog 13 #[.agg #[.int .i64 o, .int .i64 h], .int .i64 s, .agg #[.int .i64 a, .int .i64 b]] w fun e w' => e = .returned (.tuple #[.agg #[.int .i64 (depL o h s a b), .int .i64 (depH o h s a b)], .int .i64 (depE o h s a b)]) ∧ Below w.heap.size w w' := by
  unfold depL depH
  rcases ez (depP o h s a b) with ⟨h1, hb⟩ | ⟨h1, hb⟩
  · obtain ⟨⟨g1, g2, g3, g4, g5⟩, ⟨g6, g7⟩, g8, g9, g10, g11, g12⟩ := depP_z h1.out
    by_cases h2 : o = 0
    · have he : depE o h s a b = 12 := by unfold depE; rw [if_pos h1.out, if_pos h2]
      rw [he, if_neg (by decide), if_neg (by decide)]
      subst h2
      exact DepthsFor_t2 h s a b w hb
    · by_cases h3 : depLo o s a ≤ depHi o s b
      · have he : depE o h s a b = 0 := by unfold depE; rw [if_pos h1.out, if_neg h2, if_pos h3]
        rw [he, if_pos rfl, if_pos rfl]
        exact DepthsFor_t3 o h s a b w hb (by omega) g2 g6 g7 g8 g9 g10 g11 h3
      · have he : depE o h s a b = 12 := by unfold depE; rw [if_pos h1.out, if_neg h2, if_neg h3]
        rw [he, if_neg (by decide), if_neg (by decide)]
        exact DepthsFor_t4 o h s a b w hb (by omega) g2 g6 g7 g8 g9 g10 g11 h3
  · have he : depE o h s a b = depP o h s a b := by unfold depE; rw [if_neg h1.out]
    rw [he, if_neg h1.out, if_neg h1.out]
    exact DepthsFor_t1 o h s a b w hb
end Go.Proofs.YtpagbkbaphjmdaaDoor
