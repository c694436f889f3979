import Derived.Test.YtjkhjjmmkdfjmaaGTClone6
import Derived.Deep.DrawnRows
import Derived.Outline
namespace Go.Proofs.Ytjkhjjmmkdfjmaa
open Go.ChangeShapes Go.WideShapes Go.ChangeAt Go.RowKit
set_option linter.unusedVariables false
set_option linter.unusedSimpArgs false
attribute [local go_sem ↓] Go.wp_at_zero Go.wp_at_succ
theorem fndV_cases (s : ByteArray) (L : List Ve) : fndV s L = -1 ∨ ∃ q : Nat, q < L.length ∧ fndV s L = q := by
  induction L with
  | nil => exact Or.inl rfl
  | cons g l ih =>
    unfold fndV
    by_cases h : g.nm.data = s.data
    · exact Or.inr ⟨0, by simp, by simp [h]⟩
    · rcases ih with h2 | ⟨q, hq, h2⟩
      · exact Or.inl (by simp [h, h2])
      · refine Or.inr ⟨q + 1, by simp; omega, ?_⟩
        rw [if_neg h, if_neg (by omega), h2]
        omega
/-- The vessel behind a diary, as the program returns it. -/
def VbPost (L : List Ve) (X : List Fl) (s : ByteArray) (w : World) (e : Ending) (w' : World) : Prop :=
  ((¬ (behP L X).2 = 0 ∧ e = .returned (.tuple #[.agg #[.string ⟨#[]⟩, .int .i64 0, .int .i64 0, .int .i64 0, .int .i64 0, .int .i64 0], .int .i64 (behP L X).2])) ∨
  ((behP L X).2 = 0 ∧ fndV s L = -1 ∧ e = .returned (.tuple #[.agg #[.string ⟨#[]⟩, .int .i64 0, .int .i64 0, .int .i64 0, .int .i64 0, .int .i64 0], .int .i64 6])) ∨
  ((behP L X).2 = 0 ∧ ∃ (q : Nat) (hq : q < (runR (rm0 L) X).H.length), fndV s L = q ∧ e = .returned (.tuple #[.agg #[.string (runR (rm0 L) X).H[q].nm, .int .i64 (runR (rm0 L) X).H[q].v, .int .i64 (runR (rm0 L) X).H[q].m, .int .i64 (runR (rm0 L) X).H[q].a, .int .i64 (runR (rm0 L) X).H[q].b, .int .i64 (runR (rm0 L) X).H[q].c], .int .i64 0]))) ∧ Below w.heap.size w w'
set_option maxHeartbeats 4000000 in
set_option maxRecDepth 100000 in
theorem vesselBehind_any (L : List Ve) (A : Option Addr) (cap n : Nat) (X : List Fl) (fA : Option Addr) (fcap m : Nat) (s : ByteArray) (w : World) (hlen : Hid (n = L.length)) (hl : n ≤ 1000000) (hsz : Hid (∀ g ∈ L, g.nm.size ≤ 1000000)) (hL : Hid (SlRows veV 3 w A L)) (hm : Hid (m = X.length)) (hX : Hid (SlRows flV 8 w fA X)) : Calls Try.prog 67 #[.slice A n cap, .slice fA m fcap, .string s] w (VbPost L X s w) := by
  obtain ⟨⟨N, E⟩, hD⟩ : ∃ p, Hid (behP L X = p) := ⟨_, Lib.hid rfl⟩
  obtain ⟨r, hr⟩ : ∃ r, Hid (runR (rm0 L) X = r) := ⟨_, Lib.hid rfl⟩
  have HL : Hid (∀ x, Below w.heap.size w x → SlRows veV 3 x A L) := Lib.hid fun x hb => hL.out.below hb
  have HX : Hid (∀ x, Below w.heap.size w x → SlRows flV 8 x fA X) := Lib.hid fun x hb => hX.out.below hb
  have hD2 : Hid ((behP L X).2 = E) := Lib.hid (by rw [hD.out])
  go_enter Try.func67, Try.ntmps67
  go_wp2_with fail
  refine (behind_any L A cap n X fA fcap m N E r _ hlen hl hsz (Lib.hid (HL.out _ ((Below.refl _ _).alloc (Nat.le_refl _) _))) hm (Lib.hid (HX.out _ ((Below.refl _ _).alloc (Nat.le_refl _) _))) hD hr).mono ?_
  rintro e x1 hpost
  have hb : Below (w.heap.size + 1) (w.alloc (.cells #[.string ⟨#[]⟩, .int .i64 0, .int .i64 0, .int .i64 0, .int .i64 0, .int .i64 0] 131)) x1 := by
    rcases hpost with ⟨_, _, h⟩ | ⟨_, _, _, _, _, _, _, _, h⟩ <;> simpa using h
  have zb := hb.size
  simp at zb
  obtain ⟨q0, q1, q2, q3, q4, q5⟩ : x1.cell? ⟨w.heap.size, 0, none⟩ = some (.string ⟨#[]⟩) ∧ x1.cell? ⟨w.heap.size, 1, none⟩ = some (.int .i64 0) ∧ x1.cell? ⟨w.heap.size, 2, none⟩ = some (.int .i64 0) ∧ x1.cell? ⟨w.heap.size, 3, none⟩ = some (.int .i64 0) ∧ x1.cell? ⟨w.heap.size, 4, none⟩ = some (.int .i64 0) ∧ x1.cell? ⟨w.heap.size, 5, none⟩ = some (.int .i64 0) := by refine ⟨?_, ?_, ?_, ?_, ?_, ?_⟩ <;> (rw [hb.cell (p := ⟨w.heap.size, _, none⟩) (Nat.lt_succ_self _)]; simp [go_sem])
  have qf : ∀ j, x1.frozen? ⟨w.heap.size, j, none⟩ = false := fun j => by rw [hb.frozen (p := ⟨w.heap.size, _, none⟩) (Nat.lt_succ_self _)]; simp [go_sem]
  have hB : Below w.heap.size w x1 := ((Below.refl _ _).alloc (Nat.le_refl _) _).trans (hb.mono (by omega))
  have lw : w.heap.size < x1.heap.size := by omega
  have lw2 : w.heap.size < x1.heap.size + 1 := by omega
  have nw : x1.heap.size ≠ w.heap.size := by omega
  have nw2 : w.heap.size ≠ x1.heap.size := by omega
  have hBh := Lib.hid hB
  rcases hpost with ⟨hz, rfl, _⟩ | ⟨hz, A', vb, cap', n', rfl, hn', hv, _⟩
  · have hz1 : (E != 0) = true := by simpa using hz
    go_wp2
    refine bodyPost_ret (v := .tuple #[.agg #[.string ⟨#[]⟩, .int .i64 0, .int .i64 0, .int .i64 0, .int .i64 0, .int .i64 0], .int .i64 E]) (by simp [results, Try.results67, go_sem, *]) rfl ⟨Or.inl ⟨by rw [hD2.out]; exact hz, by rw [hD2.out]⟩, ?_⟩
    exact belA
  subst hz
  subst hn'
  obtain ⟨_, _, _, hmap⟩ := beh_all hD.out
  rw [hr.out] at hmap
  obtain ⟨l20, _⟩ := beh_len hD2.out
  have hHl : r.H.length ≤ 1000000 := by have h2 := congrArg List.length hmap; rw [List.length_map] at h2; omega
  have hv := Lib.hid hv
  have HM := Lib.hid hmap
  clear hmap
  rcases fndV_cases s L with hf | ⟨q, hq, hf⟩
  · have hf := Lib.hid hf
    go_wp2_with fail
    refine (vessel_none r.H A' cap' r.H.length s r.g0 r.g1 r.g2 r.k0 r.k1 r.k2 r.dy _ (Lib.hid rfl) hHl (Lib.hid (hv.out.imp id fun h => ⟨vb, h.1, by simp; omega, h.2.2.2.below ((Below.refl _ _).alloc (Nat.le_refl _) _) h.2.2.1⟩)) (Lib.hid (by rw [HM.out]; exact hf.out))).mono ?_
    rintro e x2 ⟨rfl, hb2⟩
    have zb2 := hb2.size
    simp at zb2
    obtain ⟨p0, p1, p2, p3, p4, p5⟩ : x2.cell? ⟨w.heap.size, 0, none⟩ = some (.string ⟨#[]⟩) ∧ x2.cell? ⟨w.heap.size, 1, none⟩ = some (.int .i64 0) ∧ x2.cell? ⟨w.heap.size, 2, none⟩ = some (.int .i64 0) ∧ x2.cell? ⟨w.heap.size, 3, none⟩ = some (.int .i64 0) ∧ x2.cell? ⟨w.heap.size, 4, none⟩ = some (.int .i64 0) ∧ x2.cell? ⟨w.heap.size, 5, none⟩ = some (.int .i64 0) := by refine ⟨?_, ?_, ?_, ?_, ?_, ?_⟩ <;> (rw [(bcell hb2).1 _ _ (by simp; omega)]; simp [go_sem, *])
    have pf : ∀ j, x2.frozen? ⟨w.heap.size, j, none⟩ = false := fun j => by rw [(bcell hb2).2 _ _ (by simp; omega)]; simp [go_sem, *]
    have lx : w.heap.size < x2.heap.size := by omega
    have nx : x2.heap.size ≠ w.heap.size := by omega
    have hB2 : Below w.heap.size w x2 := (hB.alloc (by omega) _).trans (hb2.mono (by simp; omega))
    clear q0 q1 q2 q3 q4 q5 qf hb2
    go_wp2
    refine bodyPost_ret (v := .tuple #[.agg #[.string ⟨#[]⟩, .int .i64 0, .int .i64 0, .int .i64 0, .int .i64 0, .int .i64 0], .int .i64 6]) (by simp [results, Try.results67, go_sem, *]) rfl ⟨Or.inr (Or.inl ⟨hD2.out, hf.out, rfl⟩), ?_⟩
    exact belA
  · have hf := Lib.hid hf
    have hqH : q < r.H.length := by have h2 := congrArg List.length HM.out; rw [List.length_map] at h2; omega
    obtain ⟨rfl, h1, h2, hR⟩ := hv.out.resolve_left (fun h => by rw [h] at hqH; simp at hqH)
    obtain ⟨G, hG⟩ : ∃ G, Hid (r.H[q] = G) := ⟨_, Lib.hid rfl⟩
    have hcc := hd_at hR hqH
    rw [hG.out] at hcc
    obtain ⟨c0, c1, c2, c3, c4, c5⟩ := hcc
    have lv : vb < x1.heap.size := h2
    clear hR
    go_wp2_with fail
    refine (vessel_some r.H vb cap' r.H.length q s r.g0 r.g1 r.g2 r.k0 r.k1 r.k2 r.dy _ (Lib.hid rfl) hHl (by simp; omega) (Lib.hid ((hv.out.resolve_left (fun h => by rw [h] at hqH; simp at hqH)).2.2.2.below ((Below.refl _ _).alloc (Nat.le_refl _) _) lv)) hqH (Lib.hid (by rw [HM.out]; exact hf.out))).mono ?_
    rintro e x2 ⟨rfl, hb2⟩
    have zb2 := hb2.size
    simp at zb2
    obtain ⟨p0, p1, p2, p3, p4, p5⟩ : x2.cell? ⟨w.heap.size, 0, none⟩ = some (.string ⟨#[]⟩) ∧ x2.cell? ⟨w.heap.size, 1, none⟩ = some (.int .i64 0) ∧ x2.cell? ⟨w.heap.size, 2, none⟩ = some (.int .i64 0) ∧ x2.cell? ⟨w.heap.size, 3, none⟩ = some (.int .i64 0) ∧ x2.cell? ⟨w.heap.size, 4, none⟩ = some (.int .i64 0) ∧ x2.cell? ⟨w.heap.size, 5, none⟩ = some (.int .i64 0) := by refine ⟨?_, ?_, ?_, ?_, ?_, ?_⟩ <;> (rw [(bcell hb2).1 _ _ (by simp; omega)]; simp [go_sem, *])
    have pf : ∀ j, x2.frozen? ⟨w.heap.size, j, none⟩ = false := fun j => by rw [(bcell hb2).2 _ _ (by simp; omega)]; simp [go_sem, *]
    have lx : w.heap.size < x2.heap.size := by omega
    have nx : x2.heap.size ≠ w.heap.size := by omega
    have hB2 : Below w.heap.size w x2 := (hB.alloc (by omega) _).trans (hb2.mono (by simp; omega))
    obtain ⟨d0, d1, d2, d3, d4, d5⟩ : x2.cell? ⟨vb, q * 6, none⟩ = some (.string G.nm) ∧ x2.cell? ⟨vb, q * 6 + 1, none⟩ = some (.int .i64 G.v) ∧ x2.cell? ⟨vb, q * 6 + 2, none⟩ = some (.int .i64 G.m) ∧ x2.cell? ⟨vb, q * 6 + 3, none⟩ = some (.int .i64 G.a) ∧ x2.cell? ⟨vb, q * 6 + 4, none⟩ = some (.int .i64 G.b) ∧ x2.cell? ⟨vb, q * 6 + 5, none⟩ = some (.int .i64 G.c) := by refine ⟨?_, ?_, ?_, ?_, ?_, ?_⟩ <;> (rw [(bcell hb2).1 _ _ (by simp; omega)]; simp [go_sem, *])
    clear q0 q1 q2 q3 q4 q5 qf hb2 c0 c1 c2 c3 c4 c5 lv
    go_wp2
    refine bodyPost_ret (v := .tuple #[.agg #[.string G.nm, .int .i64 G.v, .int .i64 G.m, .int .i64 G.a, .int .i64 G.b, .int .i64 G.c], .int .i64 0]) (by simp [results, Try.results67, go_sem, *]) rfl ⟨Or.inr (Or.inr ⟨hD2.out, q, by rw [hr.out]; exact hqH, hf.out, ?_⟩), ?_⟩
    · simp only [hr.out, hG.out]
    · exact belA
end Go.Proofs.Ytjkhjjmmkdfjmaa
