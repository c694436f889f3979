import Derived.Test.YtojaompfffpofaaGreatZOSRefCw
import Derived.Test.YtojaompfffpofaaGreatZOSAwk2
import Derived.Test.YtojaompfffpofaaGreatZOSJoin
import Derived.Test.YtojaompfffpofaaGreatZOSSlk
import Derived.Outline
namespace Go.Proofs.YtojaompfffpofaaGreat
open Go.ChangeShapes Go.WideShapes Go.ChangeAt Go.RowKit
set_option linter.unusedVariables false
set_option linter.unusedSimpArgs false
attribute [local go_sem ↓] Go.wp_at_zero Go.wp_at_succ
theorem begU_mono {L : List Wi} {m m' : Int} (h : m ≤ m') : ∀ n, begU L m n ≤ begU L m' n
  | 0 => Nat.le_refl _
  | k + 1 => by
    rw [begU, begU]
    by_cases h1 : (L.getD k default).f ≤ m
    · rw [if_pos h1, if_pos (by omega)]; exact Nat.le_refl _
    · rw [if_neg h1]
      by_cases h2 : (L.getD k default).f ≤ m'
      · rw [if_pos h2]; have := begU_le L m k; omega
      · rw [if_neg h2]; exact begU_mono h k
theorem calG_eq {M : List Int} {L : List Wi} {n : Nat} {m m' : Int} (h : begU L m n = begU L m' n) : calG M L n m = calG M L n m' := by unfold calG atW; rw [h]
theorem setHi_len (l : List Rg) (x : Int) : (setHi l x).length = l.length := by unfold setHi; rw [List.length_set]
theorem calm_len (M : List Int) (L : List Wi) (n : Nat) (a : Int) : ∀ k : Nat, (rwL a (fun k => calG M L n (a + (k : Int))) (k + 1)).length ≤ begU L (a + (k : Int)) n
  | 0 => by
    rw [rwL]
    by_cases h : calG M L n (a + ((0 : Nat) : Int)) = true
    · rw [if_pos h, if_neg (by simp)]
      have h1 : begU L (a + ((0 : Nat) : Int)) n ≠ 0 := by intro h0; rw [calG_0 h0] at h; cases h
      rw [rwL, List.nil_append, List.length_singleton]; omega
    · rw [if_neg h, rwL]; exact Nat.zero_le _
  | k + 1 => by
    have ih := calm_len M L n a k
    have hm := begU_mono (L := L) (show a + (k : Int) ≤ a + ((k + 1 : Nat) : Int) by omega) n
    rw [rwL]
    by_cases h : calG M L n (a + ((k + 1 : Nat) : Int)) = true
    · rw [if_pos h]
      by_cases h2 : (decide (0 < k + 1) && calG M L n (a + ((k + 1 - 1 : Nat) : Int))) = true
      · rw [if_pos h2, setHi_len]; omega
      · rw [if_neg h2, List.length_append, List.length_singleton]
        have hne : begU L (a + (k : Int)) n ≠ begU L (a + ((k + 1 : Nat) : Int)) n := by
          intro he
          apply h2
          rw [Nat.add_sub_cancel, calG_eq he, h]
          simp
        omega
    · rw [if_neg h]; omega
theorem calm_few (M : List Int) (L : List Wi) (n : Nat) (a : Int) (N : Nat) : (rwL a (fun k => calG M L n (a + (k : Int))) N).length ≤ n := by
  cases N with
  | zero => rw [rwL]; exact Nat.zero_le _
  | succ k => exact Nat.le_trans (calm_len M L n a k) (begU_le L _ n)
theorem infoWi : (Tryz.prog.info? 63).map (fun i => (i.zero, i.size, i.bytes)) = some (some (.agg #[.int .i64 0, .int .i64 0, .int .i64 0]), 3, 24) := by kernel_rfl
theorem wiV_one : ∀ g, ∀ u ∈ wiV g, u.oneCell' = true := by
  intro g u hu
  simp [wiV] at hu
  rcases hu with rfl | rfl | rfl <;> rfl
theorem wi_src {V : World} {A : Option Addr} {L : List Wi} (h : SlRows wiV 3 V A L) : ∀ ad, A = some ad → ∀ j u, (rowsV wiV L)[j]? = some u → V.cell? (ad.add j) = some u := by
  intro ad had j u hj
  rcases h with h | ⟨b, off, rfl, hlt, h⟩
  · rw [h] at hj; simp [rowsV] at hj
  · cases had; exact rowsV_cells (f := wiV) (n := 3) (fun _ => rfl) (by decide) h j u hj
structure LwS (s0 s1 s2 s3 s4 s5 s6 s7 m a b : Int) (w X : World) : Prop where
  c0 : X.cell? ⟨w.heap.size, 0, none⟩ = some (.int .i64 s0)
  c1 : X.cell? ⟨w.heap.size, 1, none⟩ = some (.int .i64 s1)
  c2 : X.cell? ⟨w.heap.size, 2, none⟩ = some (.int .i64 s2)
  c3 : X.cell? ⟨w.heap.size, 3, none⟩ = some (.int .i64 s3)
  c4 : X.cell? ⟨w.heap.size, 4, none⟩ = some (.int .i64 s4)
  c5 : X.cell? ⟨w.heap.size, 5, none⟩ = some (.int .i64 s5)
  c6 : X.cell? ⟨w.heap.size, 6, none⟩ = some (.int .i64 s6)
  c7 : X.cell? ⟨w.heap.size, 7, none⟩ = some (.int .i64 s7)
  c8 : X.cell? ⟨w.heap.size, 8, none⟩ = some (.int .i64 m)
  c9 : X.cell? ⟨w.heap.size, 9, none⟩ = some (.int .i64 a)
  c10 : X.cell? ⟨w.heap.size, 10, none⟩ = some (.int .i64 b)
  be : Below w.heap.size w X
  lt : w.heap.size < X.heap.size
theorem LwS.below {s0 s1 s2 s3 s4 s5 s6 s7 m a b : Int} {w X X' : World} (h : LwS s0 s1 s2 s3 s4 s5 s6 s7 m a b w X) (hb : Below X.heap.size X X') : LwS s0 s1 s2 s3 s4 s5 s6 s7 m a b w X' := by
  have z := hb.size
  have l0 := h.lt
  exact ⟨(hb.cell (p := ⟨w.heap.size, 0, none⟩) l0).trans h.c0, (hb.cell (p := ⟨w.heap.size, 1, none⟩) l0).trans h.c1, (hb.cell (p := ⟨w.heap.size, 2, none⟩) l0).trans h.c2, (hb.cell (p := ⟨w.heap.size, 3, none⟩) l0).trans h.c3, (hb.cell (p := ⟨w.heap.size, 4, none⟩) l0).trans h.c4, (hb.cell (p := ⟨w.heap.size, 5, none⟩) l0).trans h.c5, (hb.cell (p := ⟨w.heap.size, 6, none⟩) l0).trans h.c6, (hb.cell (p := ⟨w.heap.size, 7, none⟩) l0).trans h.c7, (hb.cell (p := ⟨w.heap.size, 8, none⟩) l0).trans h.c8, (hb.cell (p := ⟨w.heap.size, 9, none⟩) l0).trans h.c9, (hb.cell (p := ⟨w.heap.size, 10, none⟩) l0).trans h.c10, h.be.trans (hb.mono h.be.size), by omega⟩
structure LwT (s0 s1 s2 s3 s4 s5 s6 s7 m a b f s o : Int) (b5 : Nat) (w X : World) : Prop where
  ls : LwS s0 s1 s2 s3 s4 s5 s6 s7 m a b w X
  y0 : X.cell? ⟨b5, 0, none⟩ = some (.int .i64 f)
  y1 : X.cell? ⟨b5, 1, none⟩ = some (.int .i64 s)
  y2 : X.cell? ⟨b5, 2, none⟩ = some (.int .i64 o)
  l5 : b5 < X.heap.size
theorem LwT.below {s0 s1 s2 s3 s4 s5 s6 s7 m a b f s o : Int} {b5 : Nat} {w X X' : World} (h : LwT s0 s1 s2 s3 s4 s5 s6 s7 m a b f s o b5 w X) (hb : Below X.heap.size X X') : LwT s0 s1 s2 s3 s4 s5 s6 s7 m a b f s o b5 w X' := by
  have z := hb.size
  have l0 := h.l5
  exact ⟨h.ls.below hb, (hb.cell (p := ⟨b5, 0, none⟩) l0).trans h.y0, (hb.cell (p := ⟨b5, 1, none⟩) l0).trans h.y1, (hb.cell (p := ⟨b5, 2, none⟩) l0).trans h.y2, by omega⟩
/-- A wind in a new block, and an error. -/
def WtR (f s o E : Int) (u : World) (s5 s6 : Value) (X : World) : Prop := ∃ b5 : Nat, s5 = .pointer (some ⟨b5, 0, none⟩) ∧ s6 = .int .i64 E ∧ u.heap.size ≤ b5 ∧ b5 < X.heap.size ∧ X.cell? ⟨b5, 0, none⟩ = some (.int .i64 f) ∧ X.cell? ⟨b5, 1, none⟩ = some (.int .i64 s) ∧ X.cell? ⟨b5, 2, none⟩ = some (.int .i64 o) ∧ Below u.heap.size u X
/-- A new wind's block. -/
structure NwW (bx : Nat) (B : Nat) (X : World) : Prop where
  c0 : X.cell? ⟨bx, 0, none⟩ = some (.int .i64 0)
  c1 : X.cell? ⟨bx, 1, none⟩ = some (.int .i64 0)
  c2 : X.cell? ⟨bx, 2, none⟩ = some (.int .i64 0)
  fr : ∀ j, X.frozen? ⟨bx, j, none⟩ = false
  lt : bx < X.heap.size
  ge : B ≤ bx
theorem NwW.below {bx B : Nat} {X X' : World} (h : NwW bx B X) (hb : Below X.heap.size X X') : NwW bx B X' := by
  have z := hb.size
  have l := h.lt
  exact ⟨(hb.cell (p := ⟨bx, 0, none⟩) l).trans h.c0, (hb.cell (p := ⟨bx, 1, none⟩) l).trans h.c1, (hb.cell (p := ⟨bx, 2, none⟩) l).trans h.c2, fun j => (hb.frozen (p := ⟨bx, j, none⟩) l).trans (h.fr j), by omega, h.ge⟩
theorem NwW.grown {bx B : Nat} {X X' : World} (h : NwW bx B X) (hb : X'.heap[bx]? = X.heap[bx]?) (hl : X.heap.size ≤ X'.heap.size) : NwW bx B X' := by
  have l := h.lt
  exact ⟨(World.cell?_of_block (a := ⟨bx, 0, none⟩) hb).trans h.c0, (World.cell?_of_block (a := ⟨bx, 1, none⟩) hb).trans h.c1, (World.cell?_of_block (a := ⟨bx, 2, none⟩) hb).trans h.c2, fun j => (World.frozen?_of_block (w := X) hb).trans (h.fr j), by omega, h.ge⟩
theorem NwW.made (B : Nat) (X : World) (h : B ≤ X.heap.size) : NwW X.heap.size B (X.alloc (.cells #[.int .i64 0, .int .i64 0, .int .i64 0] 63)) :=
  ⟨by simp [go_sem], by simp [go_sem], by simp [go_sem], by intro j; simp [go_sem], by simp, h⟩
theorem CalmWindows_w (L : List Wi) (A : Option Addr) (n cap : Nat) (M : List Int) (s0 s1 s2 s3 s4 s5 s6 s7 a b : Int) (N : Nat) (V : List Rg) (w : World) (hM : Hid (M = [s0, s1, s2, s3, s4, s5, s6, s7])) (hn : Hid (n = L.length)) (n1 : n ≤ 1000000) (HL : Hid (SlRows wiV 3 w A L)) (hE0 : Hid (calE M L a b = 0)) (hN : Hid ((N : Int) = b - a + 1)) (hV : Hid (rwL a (fun k => calG M L n (a + (k : Int))) N = V)) (hq : V.length ≤ 60) :
    Calls Tryz.prog 35 #[.agg #[.int .i64 s0, .int .i64 s1, .int .i64 s2, .int .i64 s3, .int .i64 s4, .int .i64 s5, .int .i64 s6, .int .i64 s7], .slice A n cap, .agg #[.int .i64 a, .int .i64 b]] w (WofP V w) := by
  refine (CalmWindows_good L A n cap M s0 s1 s2 s3 s4 s5 s6 s7 a b N w hM hn n1 HL hE0 hN).mono ?_
  rw [hV.out]
  rintro e w' (⟨_, h⟩ | ⟨h, _⟩)
  · exact h
  · omega
theorem refCalm_v (L : List Wi) (A : Option Addr) (n cap N : Nat) (M : List Int) (s0 s1 s2 s3 s4 s5 s6 s7 a b : Int) (V : List Rg) (w : World) (hM : Hid (M = [s0, s1, s2, s3, s4, s5, s6, s7])) (hn : Hid (n = L.length)) (n1 : n ≤ 1000000) (HL : Hid (SlRows wiV 3 w A L)) (hF : Hid (wndE L = 0)) (a0 : 0 ≤ a) (ab : a ≤ b) (b1 : b ≤ 1000000) (hs3 : b - a < 3000) (hN : Hid ((N : Int) = b - a + 1)) (hV : Hid (rwL a (fun k => calG M L n (a + (k : Int))) N = V)) :
    Calls Tryz.prog 41 #[.agg #[.int .i64 s0, .int .i64 s1, .int .i64 s2, .int .i64 s3, .int .i64 s4, .int .i64 s5, .int .i64 s6, .int .i64 s7], .slice A n cap, .agg #[.int .i64 a, .int .i64 b]] w (RwP V w) := by
  rw [← hV.out]
  exact refCalm_is L A n cap N M s0 s1 s2 s3 s4 s5 s6 s7 a b w hM hn n1 HL hF a0 ab b1 hs3 hN
end Go.Proofs.YtojaompfffpofaaGreat
