/- Copies of loads and tables: what slices.Clone and the statements' own copies return. -/
import Derived.Test.YtfaodlcfjhnhbaaMBase
import Derived.Maps.AppendAt
import Derived.Laws.AppendOwnNone
import Derived.OwnWalk
import Derived.Outline
namespace Go.Proofs.Ytfaodlcfjhnhbaa
open Go.ChangeShapes Go.WideShapes Go.ChangeAt Go.RowKit
set_option linter.unusedVariables false
set_option linter.unusedSimpArgs false
theorem addN4 (c off j : Nat) : (⟨c, off, none⟩ : Addr).add j = ⟨c, off + j, none⟩ := by
  unfold Addr.add; split
  · rename_i hz; rw [hz]; rfl
  · rfl
theorem own_new {w : World} {base n s : Nat} {e : TypeId} {v : Value} {xs : List Value} (h : w.ownsRow base e s v n xs) : True := trivial
def lcs (P : List Ld) : List Value := P.flatMap fun g => [.int .i64 g.a, .int .i64 g.b, .int .i64 g.c, .int .i64 g.d]
theorem lcs_len (P : List Ld) : (lcs P).length = P.length * 4 := by
  induction P with
  | nil => rfl
  | cons g r ih =>
    show ([Value.int .i64 g.a, .int .i64 g.b, .int .i64 g.c, .int .i64 g.d] ++ lcs r).length = _
    rw [List.length_append, ih]; simp; omega
theorem lcs_at {P : List Ld} {k : Nat} (hk : k < P.length) : (lcs P)[k * 4]? = some (.int .i64 P[k].a) ∧ (lcs P)[k * 4 + 1]? = some (.int .i64 P[k].b) ∧ (lcs P)[k * 4 + 2]? = some (.int .i64 P[k].c) ∧ (lcs P)[k * 4 + 3]? = some (.int .i64 P[k].d) := by
  induction P generalizing k with
  | nil => simp at hk
  | cons g r ih =>
    have e : lcs (g :: r) = [Value.int .i64 g.a, .int .i64 g.b, .int .i64 g.c, .int .i64 g.d] ++ lcs r := rfl
    rw [e]
    cases k with
    | zero => simp
    | succ k =>
      have := ih (k := k) (by simpa using hk)
      rw [show (k + 1) * 4 = k * 4 + 4 by omega]
      obtain ⟨q0, q1, q2, q3⟩ := this
      refine ⟨?_, ?_, ?_, ?_⟩
      · simpa using q0
      · rw [show k * 4 + 4 + 1 = (k * 4 + 1) + 4 by omega]; simpa using q1
      · rw [show k * 4 + 4 + 2 = (k * 4 + 2) + 4 by omega]; simpa using q2
      · rw [show k * 4 + 4 + 3 = (k * 4 + 3) + 4 by omega]; simpa using q3
theorem lcs_get {P : List Ld} : ∀ {j : Nat} {u : Value}, (lcs P)[j]? = some u → ∃ k, ∃ hk : k < P.length, (j = k * 4 ∧ u = .int .i64 P[k].a) ∨ (j = k * 4 + 1 ∧ u = .int .i64 P[k].b) ∨ (j = k * 4 + 2 ∧ u = .int .i64 P[k].c) ∨ (j = k * 4 + 3 ∧ u = .int .i64 P[k].d) := by
  intro j u h
  have hj : j < (lcs P).length := (List.getElem?_eq_some_iff.1 h).1
  rw [lcs_len] at hj
  have hk : j / 4 < P.length := by omega
  refine ⟨j / 4, hk, ?_⟩
  obtain ⟨q0, q1, q2, q3⟩ := lcs_at hk
  have hr : j % 4 = 0 ∨ j % 4 = 1 ∨ j % 4 = 2 ∨ j % 4 = 3 := by omega
  rcases hr with hr | hr | hr | hr
  · exact Or.inl ⟨by omega, by rw [show j / 4 * 4 = j by omega, h] at q0; exact Option.some.inj q0⟩
  · exact Or.inr (Or.inl ⟨by omega, by rw [show j / 4 * 4 + 1 = j by omega, h] at q1; exact Option.some.inj q1⟩)
  · exact Or.inr (Or.inr (Or.inl ⟨by omega, by rw [show j / 4 * 4 + 2 = j by omega, h] at q2; exact Option.some.inj q2⟩))
  · exact Or.inr (Or.inr (Or.inr (⟨by omega, by rw [show j / 4 * 4 + 3 = j by omega, h] at q3; exact Option.some.inj q3⟩)))
theorem lcs_cells {w : World} {c off : Nat} {P : List Ld} (h : LdAt w c off P) : ∀ j u, (lcs P)[j]? = some u → w.cell? ((⟨c, off, none⟩ : Addr).add j) = some u := by
  intro j u hj
  obtain ⟨k, hk, hh⟩ := lcs_get hj
  obtain ⟨h0, h1, h2, h3⟩ := h k hk
  rw [addN4]
  rcases hh with ⟨rfl, rfl⟩ | ⟨rfl, rfl⟩ | ⟨rfl, rfl⟩ | ⟨rfl, rfl⟩
  · exact h0
  · exact h1
  · exact h2
  · exact h3
theorem lcs_one (P : List Ld) : ∀ u ∈ lcs P, u.oneCell' = true := by
  intro u hu
  obtain ⟨g, _, hg⟩ := List.mem_flatMap.1 hu
  simp at hg
  rcases hg with rfl | rfl | rfl | rfl <;> rfl
theorem SlLd_own {w : World} {base : Nat} {e : TypeId} {v : Value} {P : List Ld} (h : w.ownsRow base e 4 v P.length (lcs P)) : ∃ A cap, v = .slice A P.length cap ∧ SlLd w A P ∧ ∀ ad, A = some ad → base ≤ ad.block := by
  rcases h.2 with ⟨rfl, h0⟩ | ⟨g, cap, cur, rfl, hb, hg, hle, hcap, hs, ht⟩
  · exact ⟨none, 0, by rw [h0], Or.inl (List.eq_nil_of_length_eq_zero h0), fun _ h => by cases h⟩
  · refine ⟨some ⟨g, 0, none⟩, cap, rfl, Or.inr ⟨g, 0, rfl, (Array.getElem?_eq_some_iff.1 hg).1, ?_⟩, fun _ h => by cases h; exact hb⟩
    intro k hk
    obtain ⟨q0, q1, q2, q3⟩ := lcs_at hk
    have c := World.ownsRow.cells h (g := g) rfl
    have r0 := c _ _ q0
    have r1 := c _ _ q1
    have r2 := c _ _ q2
    have r3 := c _ _ q3
    rw [addN4] at r0 r1 r2 r3
    exact ⟨r0, r1, r2, r3⟩
def ccs (P : List Cm) : List Value := P.flatMap fun g => [.int .i64 g.n, .int .i64 g.h, .int .i64 g.b, .int .i64 g.s]
theorem ccs_len (P : List Cm) : (ccs P).length = P.length * 4 := by
  induction P with
  | nil => rfl
  | cons g r ih =>
    show ([Value.int .i64 g.n, .int .i64 g.h, .int .i64 g.b, .int .i64 g.s] ++ ccs r).length = _
    rw [List.length_append, ih]; simp; omega
theorem ccs_at {P : List Cm} {k : Nat} (hk : k < P.length) : (ccs P)[k * 4]? = some (.int .i64 P[k].n) ∧ (ccs P)[k * 4 + 1]? = some (.int .i64 P[k].h) ∧ (ccs P)[k * 4 + 2]? = some (.int .i64 P[k].b) ∧ (ccs P)[k * 4 + 3]? = some (.int .i64 P[k].s) := by
  induction P generalizing k with
  | nil => simp at hk
  | cons g r ih =>
    have e : ccs (g :: r) = [Value.int .i64 g.n, .int .i64 g.h, .int .i64 g.b, .int .i64 g.s] ++ ccs r := rfl
    rw [e]
    cases k with
    | zero => simp
    | succ k =>
      have := ih (k := k) (by simpa using hk)
      rw [show (k + 1) * 4 = k * 4 + 4 by omega]
      obtain ⟨q0, q1, q2, q3⟩ := this
      refine ⟨?_, ?_, ?_, ?_⟩
      · simpa using q0
      · rw [show k * 4 + 4 + 1 = (k * 4 + 1) + 4 by omega]; simpa using q1
      · rw [show k * 4 + 4 + 2 = (k * 4 + 2) + 4 by omega]; simpa using q2
      · rw [show k * 4 + 4 + 3 = (k * 4 + 3) + 4 by omega]; simpa using q3
theorem ccs_get {P : List Cm} : ∀ {j : Nat} {u : Value}, (ccs P)[j]? = some u → ∃ k, ∃ hk : k < P.length, (j = k * 4 ∧ u = .int .i64 P[k].n) ∨ (j = k * 4 + 1 ∧ u = .int .i64 P[k].h) ∨ (j = k * 4 + 2 ∧ u = .int .i64 P[k].b) ∨ (j = k * 4 + 3 ∧ u = .int .i64 P[k].s) := by
  intro j u h
  have hj : j < (ccs P).length := (List.getElem?_eq_some_iff.1 h).1
  rw [ccs_len] at hj
  have hk : j / 4 < P.length := by omega
  refine ⟨j / 4, hk, ?_⟩
  obtain ⟨q0, q1, q2, q3⟩ := ccs_at hk
  have hr : j % 4 = 0 ∨ j % 4 = 1 ∨ j % 4 = 2 ∨ j % 4 = 3 := by omega
  rcases hr with hr | hr | hr | hr
  · exact Or.inl ⟨by omega, by rw [show j / 4 * 4 = j by omega, h] at q0; exact Option.some.inj q0⟩
  · exact Or.inr (Or.inl ⟨by omega, by rw [show j / 4 * 4 + 1 = j by omega, h] at q1; exact Option.some.inj q1⟩)
  · exact Or.inr (Or.inr (Or.inl ⟨by omega, by rw [show j / 4 * 4 + 2 = j by omega, h] at q2; exact Option.some.inj q2⟩))
  · exact Or.inr (Or.inr (Or.inr (⟨by omega, by rw [show j / 4 * 4 + 3 = j by omega, h] at q3; exact Option.some.inj q3⟩)))
theorem ccs_cells {w : World} {c off : Nat} {P : List Cm} (h : CmAt w c off P) : ∀ j u, (ccs P)[j]? = some u → w.cell? ((⟨c, off, none⟩ : Addr).add j) = some u := by
  intro j u hj
  obtain ⟨k, hk, hh⟩ := ccs_get hj
  obtain ⟨h0, h1, h2, h3⟩ := h k hk
  rw [addN4]
  rcases hh with ⟨rfl, rfl⟩ | ⟨rfl, rfl⟩ | ⟨rfl, rfl⟩ | ⟨rfl, rfl⟩
  · exact h0
  · exact h1
  · exact h2
  · exact h3
theorem ccs_one (P : List Cm) : ∀ u ∈ ccs P, u.oneCell' = true := by
  intro u hu
  obtain ⟨g, _, hg⟩ := List.mem_flatMap.1 hu
  simp at hg
  rcases hg with rfl | rfl | rfl | rfl <;> rfl
theorem SlCm_own {w : World} {base : Nat} {e : TypeId} {v : Value} {P : List Cm} (h : w.ownsRow base e 4 v P.length (ccs P)) : ∃ A cap, v = .slice A P.length cap ∧ SlCm w A P ∧ ∀ ad, A = some ad → base ≤ ad.block := by
  rcases h.2 with ⟨rfl, h0⟩ | ⟨g, cap, cur, rfl, hb, hg, hle, hcap, hs, ht⟩
  · exact ⟨none, 0, by rw [h0], Or.inl (List.eq_nil_of_length_eq_zero h0), fun _ h => by cases h⟩
  · refine ⟨some ⟨g, 0, none⟩, cap, rfl, Or.inr ⟨g, 0, rfl, (Array.getElem?_eq_some_iff.1 hg).1, ?_⟩, fun _ h => by cases h; exact hb⟩
    intro k hk
    obtain ⟨q0, q1, q2, q3⟩ := ccs_at hk
    have c := World.ownsRow.cells h (g := g) rfl
    have r0 := c _ _ q0
    have r1 := c _ _ q1
    have r2 := c _ _ q2
    have r3 := c _ _ q3
    rw [addN4] at r0 r1 r2 r3
    exact ⟨r0, r1, r2, r3⟩
theorem eqL0 (w : World) : (binOp .eql 23 (.slice none 0 0) (.slice none 0 0)).run Try.prog w = .ok (.bool true) w := by kernel_rfl
theorem eqL1 (a : Addr) (n c : Nat) (w : World) : (binOp .eql 23 (.slice (some a) n c) (.slice none 0 0)).run Try.prog w = .ok (.bool false) w := by kernel_rfl
def CopiedL (P : List Ld) (w : World) (e : Ending) (w' : World) : Prop := ∃ A cap, e = .returned (.slice A P.length cap) ∧ SlLd w' A P ∧ (∀ ad, A = some ad → w.heap.size ≤ ad.block) ∧ Below w.heap.size w w'
def CopiedC (P : List Cm) (w : World) (e : Ending) (w' : World) : Prop := ∃ A cap, e = .returned (.slice A P.length cap) ∧ SlCm w' A P ∧ (∀ ad, A = some ad → w.heap.size ≤ ad.block) ∧ Below w.heap.size w w'
theorem infoLd : (Try.prog.info? 49).map (fun i => (i.zero, i.size, i.bytes)) = some (some (.agg #[.int .i64 0, .int .i64 0, .int .i64 0, .int .i64 0]), 4, 32) := by kernel_rfl
theorem infoCm : (Try.prog.info? 71).map (fun i => (i.zero, i.size, i.bytes)) = some (some (.agg #[.int .i64 0, .int .i64 0, .int .i64 0, .int .i64 0]), 4, 32) := by kernel_rfl
set_option maxRecDepth 100000 in
theorem cloneLd_some (P : List Ld) (ad : Addr) (cap : Nat) (w : World) (hl : P.length ≤ 1000000) (hP : ∀ j u, (lcs P)[j]? = some u → (w.alloc (.cells #[] 49)).cell? (ad.add j) = some u) :
    Calls Try.prog 65 #[.slice (some ad) P.length cap] w (CopiedL P w) := by
  have HC := Lib.hid hP
  have HO := Lib.hid (World.ownsRow_made (base := w.heap.size) (e := 49) (size := 4) w #[] 0 (Nat.le_refl _) (by simp) (by simp))
  obtain ⟨i0, hi, hz0, hz1, hz2⟩ := info_parts infoLd
  have HI := Lib.hid hi
  have HZ0 := Lib.hid hz0
  have HZ1 := Lib.hid hz1
  have HZ2 := Lib.hid hz2
  have HL := Lib.hid (lcs_len P)
  have HF := Lib.hid (lcs_one P)
  clear hP hi hz0 hz1 hz2
  have hen := eqL1 ad P.length cap
  go_enter Try.func65, Try.ntmps65
  go_wp2_with (at_builtin; refine wpList_append_own_at _ rfl _ _ 23 rfl w.heap.size 49 i0 (.agg #[.int .i64 0, .int .i64 0, .int .i64 0, .int .i64 0]) 4 32 Try.underlying23 HI.out HZ0.out HZ1.out HZ2.out rfl (by decide) _ 0 [] rfl HO.out ad P.length cap (lcs P) rfl HL.out HC.out HF.out ?c1 ?c2 ?c3 ?_)
  case c1 => unfold maxLen; omega
  case c2 => omega
  case c3 => simp
  intro v' w1 hown hgrow _ hblk
  have hB : Below w.heap.size w w1 := ((Below.refl w.heap.size w).alloc (Nat.le_refl _) _).grown hgrow (by simp) (by intro k hk; simp [Value.ownBlock] at hk; omega)
  (try simp only [Nat.zero_add, List.nil_append] at hown)
  have HK := Lib.hid (own_new hown)
  obtain ⟨A, cp, rfl, hS, hN⟩ := SlLd_own hown
  have HN := Lib.hid hN
  clear hN
  have HS := Lib.hid hS
  clear hown hgrow hblk hS
  go_wp2
  go_ret
  exact ⟨A, cp, rfl, HS.out, HN.out, hB⟩
set_option maxRecDepth 100000 in
theorem cloneLd_nil (w : World) :
    Calls Try.prog 65 #[.slice none 0 0] w (CopiedL [] w) := by
  have hen := eqL0
  go_enter Try.func65, Try.ntmps65
  go_wp2
  go_ret
  exact ⟨none, 0, rfl, Or.inl rfl, (fun _ h => by cases h), (by (repeat (first | (with_reducible refine Below.drew ?_) | (with_reducible refine below_drewN ?_ _) | (with_reducible refine Below.alloc ?_ (by first | omega | (simp; done) | (simp; omega) | (simp at *; omega)) _) | (with_reducible refine Below.setCell ?_ (by first | omega | (simp; done) | (simp; omega) | (simp at *; omega)) _) | (with_reducible exact Below.refl _ _) | (with_reducible assumption) | (with_reducible refine Below.trans ?_ (Below.mono (by assumption) (by first | omega | (simp; done) | (simp; omega) | (simp at *; omega)))))))⟩
theorem cloneLd_any (P : List Ld) (A : Option Addr) (cap : Nat) (w : World) (hl : P.length ≤ 1000000) (hc : A = none → cap = 0) (hS : SlLd w A P) :
    Calls Try.prog 65 #[.slice A P.length cap] w (CopiedL P w) := by
  rcases hS with rfl | ⟨c, off, rfl, hlt, hP⟩
  · cases A with
    | none => rw [hc rfl]; exact cloneLd_nil w
    | some ad => exact cloneLd_some [] ad cap w (by simp) (by intro j u h; simp [lcs] at h)
  · exact cloneLd_some P _ cap w hl (lcs_cells (hP.below (Below.alloc (Below.refl _ w) (Nat.le_refl _) (.cells #[] 49)) hlt))
/-- A copy of one load. -/
def Clone1 (w : World) (x0 x1 x2 x3 : Int) (e : Ending) (w' : World) : Prop := ∃ q qf qc, e = .returned (.slice (some ⟨q, qf, none⟩) 1 qc) ∧ w.heap.size ≤ q ∧ q < w'.heap.size ∧ w'.cell? ⟨q, qf, none⟩ = some (.int .i64 x0) ∧ w'.cell? ⟨q, qf + 1, none⟩ = some (.int .i64 x1) ∧ w'.cell? ⟨q, qf + 2, none⟩ = some (.int .i64 x2) ∧ w'.cell? ⟨q, qf + 3, none⟩ = some (.int .i64 x3) ∧ Below w.heap.size w w'
theorem clone_one (x0 x1 x2 x3 : Int) (q0 qo qcap : Nat) (w : World) (hq : q0 < w.heap.size) (p0 : w.cell? ⟨q0, qo, none⟩ = some (.int .i64 x0)) (p1 : w.cell? ⟨q0, qo + 1, none⟩ = some (.int .i64 x1)) (p2 : w.cell? ⟨q0, qo + 2, none⟩ = some (.int .i64 x2)) (p3 : w.cell? ⟨q0, qo + 3, none⟩ = some (.int .i64 x3)) :
    Calls Try.prog 65 #[.slice (some ⟨q0, qo, none⟩) 1 qcap] w (Clone1 w x0 x1 x2 x3) := by
  have hS : SlLd w (some ⟨q0, qo, none⟩) [⟨x0, x1, x2, x3⟩] := Or.inr ⟨q0, qo, rfl, hq, fun k hk => by
    obtain rfl : k = 0 := by simp at hk; omega
    simp only [Nat.zero_mul, Nat.add_zero]
    exact ⟨p0, p1, p2, p3⟩⟩
  refine (cloneLd_any [⟨x0, x1, x2, x3⟩] _ qcap w (by simp) (fun h => by cases h) hS).mono ?_
  rintro e w' ⟨A, cap, rfl, hS', hN, hB⟩
  rcases hS' with h | ⟨b, off, rfl, hlt, hL⟩
  · cases h
  · have := hL 0 (by simp)
    simp only [Nat.zero_mul, Nat.add_zero] at this
    exact ⟨b, off, cap, rfl, hN _ rfl, hlt, this.1, this.2.1, this.2.2.1, this.2.2.2, hB⟩
end Go.Proofs.Ytfaodlcfjhnhbaa
