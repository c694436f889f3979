import Derived.Test.YtjkhjjmmkdfjmaaGTBeh
import Derived.Outline
namespace Go.Proofs.Ytjkhjjmmkdfjmaa
open Go.ChangeShapes Go.WideShapes Go.ChangeAt Go.RowKit
set_option linter.unusedVariables false
set_option linter.unusedSimpArgs false
theorem ves_ok : ∀ {L : List Ve} {K : List ByteArray}, vesE K L = 0 → ∀ g ∈ L, nameB g.nm = true ∧ veE g = 0
  | [], _, _, g, hg => absurd hg (by simp)
  | x :: r, K, h, g, hg => by
    unfold vesE at h
    by_cases h1 : nameB x.nm = true
    · rw [if_pos h1] at h
      by_cases h2 : inN x.nm K = true
      · rw [if_pos h2] at h; exact absurd h (by decide)
      · rw [if_neg h2] at h
        by_cases h3 : veE x = 0
        · rw [if_pos h3] at h
          rcases List.mem_cons.1 hg with rfl | hg
          · exact ⟨h1, h3⟩
          · exact ves_ok h g hg
        · rw [if_neg h3] at h; exact absurd h h3
    · rw [if_neg h1] at h; exact absurd h (by decide)
theorem rm0_ok {L : List Ve} (h : ctV L = 0) : RmOk (rm0 L) 0 := by
  unfold ctV at h
  by_cases h1 : 20 < L.length
  · rw [if_pos h1] at h; exact absurd h (by decide)
  rw [if_neg h1] at h
  refine ⟨fun g hg => ?_, by simp [rm0], by simp [rm0], by simp [rm0], by simp [rm0], by simp [rm0], by simp [rm0]⟩
  obtain ⟨x, hx, rfl⟩ := List.mem_map.1 hg
  obtain ⟨a, b⟩ := ves_ok h x hx
  have hn : 1 ≤ x.nm.size := by
    unfold nameB at a
    simp only [Bool.and_eq_true, decide_eq_true_eq] at a
    exact a.1.1.1
  unfold veE at b
  by_cases h2 : inB x.v 1 1000000 = true
  · rw [if_pos h2] at b
    have v := inB_iff.1 h2
    rcases inB_cases x.m 1 400000 with h3 | h3
    · have mm := inB_iff.1 h3
      exact ⟨by show x.nm.size ≠ 0; omega, by show conB 0 0 0 = true; decide, v.1, v.2, mm.1, mm.2⟩
    · rw [rngE_f h3] at b; exact absurd b (by decide)
  · rw [if_neg h2] at b; exact absurd b (by decide)
/-- The number and the error of fills between vessels. -/
def behP (L : List Ve) (X : List Fl) : Nat × Int := if ctV L = 0 then (if 200 < X.length then (0, 8) else dia (rm0 L) X 0) else (0, ctV L)
set_option maxHeartbeats 2000000 in
theorem behind_ves (L : List Ve) (A : Option Addr) (cap n : Nat) (X : List Fl) (fA : Option Addr) (fcap m : Nat) (E : Int) (r : Rm) (w : World) (hlen : Hid (n = L.length)) (hl : n ≤ 1000000) (hsz : Hid (∀ g ∈ L, g.nm.size ≤ 1000000)) (hL : Hid (SlRows veV 3 w A L)) (hC : Hid (ctV L = E)) (hz : (E != 0) = true) : Calls Try.prog 58 #[.slice A n cap, .slice fA m fcap] w (BehPostF r 0 E w) := by
  go_enter Try.func58, Try.ntmps58
  go_wp2_with fail
  refine (CheckVessels_any L A cap n E _ hlen hl hsz (hL.out.below ((Below.refl _ _).alloc (Nat.le_refl _) _)) hC).mono ?_
  rintro e x1 ⟨rfl, hb1⟩
  have z1 := hb1.size
  try simp at z1
  obtain ⟨c0, c1, c2, c3, c4, c5, c6, c7⟩ : x1.cell? ⟨w.heap.size, 0, none⟩ = some (.slice none 0 0) ∧ x1.cell? ⟨w.heap.size, 1, none⟩ = some (.int .i64 0) ∧ x1.cell? ⟨w.heap.size, 2, none⟩ = some (.int .i64 0) ∧ x1.cell? ⟨w.heap.size, 3, none⟩ = some (.int .i64 0) ∧ x1.cell? ⟨w.heap.size, 4, none⟩ = some (.int .i64 0) ∧ x1.cell? ⟨w.heap.size, 5, none⟩ = some (.int .i64 0) ∧ x1.cell? ⟨w.heap.size, 6, none⟩ = some (.int .i64 0) ∧ x1.cell? ⟨w.heap.size, 7, none⟩ = some (.int .i64 0) := by refine ⟨?_, ?_, ?_, ?_, ?_, ?_, ?_, ?_⟩ <;> (rw [bc1 hb1]; simp [go_sem, cP])
  have cf : ∀ j, x1.frozen? ⟨w.heap.size, j, none⟩ = false := fun j => by rw [bc2 hb1]; simp [go_sem]
  have hB1 : Below w.heap.size w x1 := belA
  clear hb1
  go_wp2
  refine bodyPost_ret (v := .tuple #[.agg #[.slice none 0 0, .int .i64 0, .int .i64 0, .int .i64 0, .int .i64 0, .int .i64 0, .int .i64 0, .int .i64 0], .int .i64 0, .int .i64 E]) (by simp [results, Try.results58, go_sem, *]) rfl (Or.inl ⟨by simpa using hz, rfl, ?_⟩)
  exact belA
set_option maxHeartbeats 2000000 in
theorem behind_big (L : List Ve) (A : Option Addr) (cap n : Nat) (X : List Fl) (fA : Option Addr) (fcap m : Nat) (r : Rm) (w : World) (hlen : Hid (n = L.length)) (hl : n ≤ 1000000) (hsz : Hid (∀ g ∈ L, g.nm.size ≤ 1000000)) (hL : Hid (SlRows veV 3 w A L)) (hC : Hid (ctV L = 0)) (hz : 200 < m) : Calls Try.prog 58 #[.slice A n cap, .slice fA m fcap] w (BehPostF r 0 8 w) := by
  have hmm : (200 : Int) < (m : Int) := by omega
  go_enter Try.func58, Try.ntmps58
  go_wp2_with fail
  refine (CheckVessels_any L A cap n 0 _ hlen hl hsz (hL.out.below ((Below.refl _ _).alloc (Nat.le_refl _) _)) hC).mono ?_
  rintro e x1 ⟨rfl, hb1⟩
  have z1 := hb1.size
  try simp at z1
  obtain ⟨c0, c1, c2, c3, c4, c5, c6, c7⟩ : x1.cell? ⟨w.heap.size, 0, none⟩ = some (.slice none 0 0) ∧ x1.cell? ⟨w.heap.size, 1, none⟩ = some (.int .i64 0) ∧ x1.cell? ⟨w.heap.size, 2, none⟩ = some (.int .i64 0) ∧ x1.cell? ⟨w.heap.size, 3, none⟩ = some (.int .i64 0) ∧ x1.cell? ⟨w.heap.size, 4, none⟩ = some (.int .i64 0) ∧ x1.cell? ⟨w.heap.size, 5, none⟩ = some (.int .i64 0) ∧ x1.cell? ⟨w.heap.size, 6, none⟩ = some (.int .i64 0) ∧ x1.cell? ⟨w.heap.size, 7, none⟩ = some (.int .i64 0) := by refine ⟨?_, ?_, ?_, ?_, ?_, ?_, ?_, ?_⟩ <;> (rw [bc1 hb1]; simp [go_sem, cP])
  have cf : ∀ j, x1.frozen? ⟨w.heap.size, j, none⟩ = false := fun j => by rw [bc2 hb1]; simp [go_sem]
  have hB1 : Below w.heap.size w x1 := belA
  clear hb1
  go_wp2
  refine bodyPost_ret (v := .tuple #[.agg #[.slice none 0 0, .int .i64 0, .int .i64 0, .int .i64 0, .int .i64 0, .int .i64 0, .int .i64 0, .int .i64 0], .int .i64 0, .int .i64 8]) (by simp [results, Try.results58, go_sem, *]) rfl (Or.inl ⟨by decide, rfl, ?_⟩)
  exact belA
theorem behind_anyF (L : List Ve) (A : Option Addr) (cap n : Nat) (X : List Fl) (fA : Option Addr) (fcap m : Nat) (N : Nat) (E : Int) (r : Rm) (w : World) (hlen : Hid (n = L.length)) (hl : n ≤ 1000000) (hsz : Hid (∀ g ∈ L, g.nm.size ≤ 1000000)) (hL : Hid (SlRows veV 3 w A L)) (hm : Hid (m = X.length)) (hX : Hid (SlRows flV 8 w fA X)) (hD : Hid (behP L X = (N, E))) (hr : Hid (runR (rm0 L) X = r)) : Calls Try.prog 58 #[.slice A n cap, .slice fA m fcap] w (BehPostF r N E w) := by
  have hd := hD.out
  unfold behP at hd
  by_cases h1 : ctV L = 0
  · rw [if_pos h1] at hd
    have hn : n ≤ 1000 := by
      have := hlen.out
      have h2 := h1
      unfold ctV at h2
      by_cases h3 : 20 < L.length
      · rw [if_pos h3] at h2; exact absurd h2 (by decide)
      · omega
    by_cases h2 : 200 < X.length
    · rw [if_pos h2] at hd
      obtain ⟨rfl, rfl⟩ := Prod.mk.inj hd
      exact behind_big L A cap n X fA fcap m r w hlen hl hsz hL (Lib.hid h1) (by have := hm.out; omega)
    · rw [if_neg h2] at hd
      exact behind_run L A cap n X fA fcap m N E w hlen hn hsz hL hm (by have := hm.out; omega) hX (Lib.hid h1) (Lib.hid (rm0_ok h1)) (Lib.hid hd) r hr
  · rw [if_neg h1] at hd
    obtain ⟨rfl, rfl⟩ := Prod.mk.inj hd
    exact behind_ves L A cap n X fA fcap m _ r w hlen hl hsz hL (Lib.hid rfl) (by simpa using h1)
theorem behind_any (L : List Ve) (A : Option Addr) (cap n : Nat) (X : List Fl) (fA : Option Addr) (fcap m : Nat) (N : Nat) (E : Int) (r : Rm) (w : World) (hlen : Hid (n = L.length)) (hl : n ≤ 1000000) (hsz : Hid (∀ g ∈ L, g.nm.size ≤ 1000000)) (hL : Hid (SlRows veV 3 w A L)) (hm : Hid (m = X.length)) (hX : Hid (SlRows flV 8 w fA X)) (hD : Hid (behP L X = (N, E))) (hr : Hid (runR (rm0 L) X = r)) : Calls Try.prog 58 #[.slice A n cap, .slice fA m fcap] w (BehPost r N E w) :=
  (behind_anyF L A cap n X fA fcap m N E r w hlen hl hsz hL hm hX hD hr).mono fun _ _ h => h.weak
end Go.Proofs.Ytjkhjjmmkdfjmaa
