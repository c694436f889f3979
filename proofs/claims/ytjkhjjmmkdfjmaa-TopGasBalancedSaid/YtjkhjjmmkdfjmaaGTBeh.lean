import Derived.Test.YtjkhjjmmkdfjmaaGTRmAdd
import Derived.Test.YtjkhjjmmkdfjmaaGTFRoom4
import Derived.Maps.AppendAt
import Derived.Outline
namespace Go.Proofs.Ytjkhjjmmkdfjmaa
open Go.ChangeShapes Go.WideShapes Go.ChangeAt Go.RowKit
set_option linter.unusedVariables false
set_option linter.unusedSimpArgs false
def hd0 (g : Ve) : Hd := ⟨g.nm, g.v, g.m, 0, 0, 0⟩
/-- The room of vessels ahead of all fills. -/
def rm0 (L : List Ve) : Rm := ⟨L.map hd0, 0, 0, 0, 0, 0, 0, 0⟩
def runR (r : Rm) : List Fl → Rm
  | [] => r
  | x :: l => runR (stpR r x) l
/-- The number of the first wrong fill, and its error. -/
def dia (r : Rm) : List Fl → Nat → Nat × Int
  | [], _ => (0, 0)
  | x :: l, i => if stpE r x = 0 then dia (stpR r x) l (i + 1) else (i, stpE r x)
theorem BelowE.setB (x N : Nat) (w : World) (i : Nat) (v : Value) : BelowE x N w (w.setCell ⟨x, i, none⟩ v) :=
  ⟨rfl, rfl, rfl, by rw [World.size_setCell]; exact Nat.le_refl _, fun k hk h => Below.heap_setCell _ _ _ _ (by exact h)⟩
theorem BelowE.toD {x y N : Nat} {w w' : World} (h : BelowE x N w w') : BelowD x y N w w' := ⟨h.os, h.tape, h.output, h.size, fun k hk h1 _ => h.block k hk h1⟩
theorem hdV_six (g : Hd) : (hdV g).length = 6 := rfl
theorem take_map_succ {L : List Ve} {k : Nat} (hk : k < L.length) : rowsV hdV ((L.take (k + 1)).map hd0) = rowsV hdV ((L.take k).map hd0) ++ hdV (hd0 L[k]) := by
  rw [List.take_succ_eq_append_getElem hk, List.map_append]
  simp [rowsV]
theorem fl_at {w : World} {b off : Nat} {L : List Fl} (h : RowsAt flV 8 w b off L) {k : Nat} (hk : k < L.length) : w.cell? ⟨b, off + k * 8, none⟩ = some (.int .i64 L[k].k) ∧ w.cell? ⟨b, off + k * 8 + 1, none⟩ = some (.int .i64 L[k].d) ∧ w.cell? ⟨b, off + k * 8 + 2, none⟩ = some (.string L[k].fr) ∧ w.cell? ⟨b, off + k * 8 + 3, none⟩ = some (.string L[k].tz) ∧ w.cell? ⟨b, off + k * 8 + 4, none⟩ = some (.int .i64 L[k].o) ∧ w.cell? ⟨b, off + k * 8 + 5, none⟩ = some (.int .i64 L[k].h) ∧ w.cell? ⟨b, off + k * 8 + 6, none⟩ = some (.int .i64 L[k].am) ∧ w.cell? ⟨b, off + k * 8 + 7, none⟩ = some (.bool L[k].pu) :=
  ⟨h k hk 0 (by omega), h k hk 1 (by omega), h k hk 2 (by omega), h k hk 3 (by omega), h k hk 4 (by omega), h k hk 5 (by omega), h k hk 6 (by omega), h k hk 7 (by omega)⟩
theorem held_of {w : World} {rb n : Nat} {e : TypeId} {V : Value} {H : List Hd} (h : w.ownsRow (rb + 1) e 6 V n (rowsV hdV H)) (hn : n = H.length) : ∃ A vb cap, V = .slice A n cap ∧ rb < vb ∧ (H = [] ∨ (A = some ⟨vb, 0, none⟩ ∧ vb < w.heap.size ∧ rb ≠ vb ∧ RowsAt hdV 6 w vb 0 H ∧ ∀ j, w.frozen? ⟨vb, j, none⟩ = false)) := by
  cases n with
  | zero =>
    rcases h.2 with ⟨rfl, _⟩ | ⟨g, cap, cur, rfl, hb, _⟩
    · exact ⟨none, rb + 1, 0, rfl, by omega, Or.inl (List.eq_nil_of_length_eq_zero hn.symm)⟩
    · exact ⟨_, g, cap, rfl, by omega, Or.inl (List.eq_nil_of_length_eq_zero hn.symm)⟩
  | succ n =>
    obtain ⟨g, cap, rfl, hb, hg, hc, hf⟩ := own_openF h
    refine ⟨_, g, cap, rfl, by omega, Or.inr ⟨rfl, hg, by omega, fun k hk i hi => ?_, hf⟩⟩
    have e := rowsV_at hdV_six hk hi
    have hi2 : i < (hdV H[k]).length := by rw [hdV_six]; exact hi
    rw [List.getElem?_eq_getElem hi2] at e ⊢
    rw [Nat.zero_add]
    exact hc _ _ e
theorem runR_snoc {x : Fl} : ∀ (l : List Fl) (r : Rm), runR r (l ++ [x]) = stpR (runR r l) x
  | [], r => rfl
  | y :: l, r => runR_snoc l (stpR r y)
theorem runR_take {r : Rm} {X : List Fl} {j : Nat} (hj : j < X.length) : runR r (X.take (j + 1)) = stpR (runR r (X.take j)) X[j] := by
  rw [List.take_succ_eq_append_getElem hj]; exact runR_snoc _ _
theorem dia_drop {r : Rm} {X : List Fl} {j : Nat} (hj : j < X.length) : dia r (X.drop j) j = if stpE r X[j] = 0 then dia (stpR r X[j]) (X.drop (j + 1)) (j + 1) else (j, stpE r X[j]) := by
  rw [List.drop_eq_getElem_cons hj]; rfl
theorem RmAt.below {w w' : World} {rb vb n cap : Nat} {A : Option Addr} {r : Rm} (h : RmAt w rb vb n cap A r) (hb : Below w.heap.size w w') : RmAt w' rb vb n cap A r := by
  obtain ⟨r0, r1, r2, r3, r4, r5, r6, r7, rf, lr, hn, hl, vs⟩ := h
  have c : ∀ i, w'.cell? ⟨rb, i, none⟩ = w.cell? ⟨rb, i, none⟩ := fun i => hb.cell (p := ⟨rb, i, none⟩) lr
  refine ⟨(c _).trans r0, (c _).trans r1, (c _).trans r2, (c _).trans r3, (c _).trans r4, (c _).trans r5, (c _).trans r6, (c _).trans r7, fun j => (hb.frozen (p := ⟨rb, j, none⟩) lr).trans (rf j), Nat.lt_of_lt_of_le lr hb.size, hn, hl, ?_⟩
  rcases vs with h | ⟨e, lv, nv, hR, vf⟩
  · exact Or.inl h
  · exact Or.inr ⟨e, Nat.lt_of_lt_of_le lv hb.size, nv, hR.below hb lv, fun j => (hb.frozen (p := ⟨vb, j, none⟩) lv).trans (vf j)⟩
/-- What behind returns. -/
def BehPost (r : Rm) (N : Nat) (E : Int) (w : World) (e : Ending) (w' : World) : Prop :=
  (¬ E = 0 ∧ e = .returned (.tuple #[.agg #[.slice none 0 0, .int .i64 0, .int .i64 0, .int .i64 0, .int .i64 0, .int .i64 0, .int .i64 0, .int .i64 0], .int .i64 N, .int .i64 E]) ∧ Below w.heap.size w w') ∨
  (E = 0 ∧ ∃ A vb cap n, e = .returned (.tuple #[.agg #[.slice A n cap, .int .i64 r.g0, .int .i64 r.g1, .int .i64 r.g2, .int .i64 r.k0, .int .i64 r.k1, .int .i64 r.k2, .int .i64 r.dy], .int .i64 0, .int .i64 0]) ∧ n = r.H.length ∧ (r.H = [] ∨ (A = some ⟨vb, 0, none⟩ ∧ w.heap.size ≤ vb ∧ vb < w'.heap.size ∧ RowsAt hdV 6 w' vb 0 r.H)) ∧ Below w.heap.size w w')
def BehPostF (r : Rm) (N : Nat) (E : Int) (w : World) (e : Ending) (w' : World) : Prop :=
  (¬ E = 0 ∧ e = .returned (.tuple #[.agg #[.slice none 0 0, .int .i64 0, .int .i64 0, .int .i64 0, .int .i64 0, .int .i64 0, .int .i64 0, .int .i64 0], .int .i64 N, .int .i64 E]) ∧ Below w.heap.size w w') ∨
  (E = 0 ∧ ∃ A vb cap n, e = .returned (.tuple #[.agg #[.slice A n cap, .int .i64 r.g0, .int .i64 r.g1, .int .i64 r.g2, .int .i64 r.k0, .int .i64 r.k1, .int .i64 r.k2, .int .i64 r.dy], .int .i64 0, .int .i64 0]) ∧ n = r.H.length ∧ (r.H = [] ∨ (A = some ⟨vb, 0, none⟩ ∧ w.heap.size ≤ vb ∧ vb < w'.heap.size ∧ RowsAt hdV 6 w' vb 0 r.H ∧ ∀ j, w'.frozen? ⟨vb, j, none⟩ = false)) ∧ Below w.heap.size w w')
theorem BehPostF.weak {r : Rm} {N : Nat} {E : Int} {w : World} {e : Ending} {w' : World} (h : BehPostF r N E w e w') : BehPost r N E w e w' :=
  h.imp id fun ⟨h0, A, vb, cap, n, h1, h2, h3, h4⟩ => ⟨h0, A, vb, cap, n, h1, h2, h3.imp id fun ⟨k1, k2, k3, k4, _⟩ => ⟨k1, k2, k3, k4⟩, h4⟩
set_option maxHeartbeats 8000000 in
set_option maxRecDepth 100000 in
theorem behind_run (L : List Ve) (A : Option Addr) (cap n : Nat) (X : List Fl) (fA : Option Addr) (fcap m : Nat) (N : Nat) (E : Int) (w : World) (hlen : Hid (n = L.length)) (hl : n ≤ 1000) (hsz : Hid (∀ g ∈ L, g.nm.size ≤ 1000000)) (hL : Hid (SlRows veV 3 w A L)) (hm : Hid (m = X.length)) (hm2 : m ≤ 200) (hX : Hid (SlRows flV 8 w fA X)) (hC : Hid (ctV L = 0)) (hok : Hid (RmOk (rm0 L) 0)) (hD : Hid (dia (rm0 L) X 0 = (N, E))) (r : Rm) (hr : Hid (runR (rm0 L) X = r)) : Calls Try.prog 58 #[.slice A n cap, .slice fA m fcap] w (BehPostF r N E w) := by
  obtain ⟨i0, hi, hz0, hz1, hz2⟩ := info_partsF infoHeld
  have HI := Lib.hid hi
  have HZ0 := Lib.hid hz0
  have HZ1 := Lib.hid hz1
  have HZ2 := Lib.hid hz2
  clear hi hz0 hz1 hz2
  have hmm : ¬ (200 : Int) < (m : Int) := by omega
  go_enter Try.func58, Try.ntmps58
  go_wp2_with fail
  refine (CheckVessels_any L A cap n 0 _ hlen (by omega) hsz (hL.out.below ((Below.refl _ _).alloc (Nat.le_refl _) _)) hC).mono ?_
  rintro e x1 ⟨rfl, hb1⟩
  have z1 := hb1.size
  try simp at z1
  obtain ⟨c0, c1, c2, c3, c4, c5, c6, c7⟩ : x1.cell? ⟨w.heap.size, 0, none⟩ = some (.slice none 0 0) ∧ x1.cell? ⟨w.heap.size, 1, none⟩ = some (.int .i64 0) ∧ x1.cell? ⟨w.heap.size, 2, none⟩ = some (.int .i64 0) ∧ x1.cell? ⟨w.heap.size, 3, none⟩ = some (.int .i64 0) ∧ x1.cell? ⟨w.heap.size, 4, none⟩ = some (.int .i64 0) ∧ x1.cell? ⟨w.heap.size, 5, none⟩ = some (.int .i64 0) ∧ x1.cell? ⟨w.heap.size, 6, none⟩ = some (.int .i64 0) ∧ x1.cell? ⟨w.heap.size, 7, none⟩ = some (.int .i64 0) := by refine ⟨?_, ?_, ?_, ?_, ?_, ?_, ?_, ?_⟩ <;> (rw [bc1 hb1]; simp [go_sem, cP])
  have cf : ∀ j, x1.frozen? ⟨w.heap.size, j, none⟩ = false := fun j => by rw [bc2 hb1]; simp [go_sem]
  have hB1 : Below w.heap.size w x1 := belA
  have lw : w.heap.size < x1.heap.size := by omega
  clear hb1 z1
  go_wp2_with fail
  obtain ⟨rb, hrb⟩ : ∃ r, Hid (x1.heap.size = r) := ⟨_, Lib.hid rfl⟩
  obtain ⟨d0, d1, d2, d3, d4, d5, d6, d7⟩ : (x1.alloc (.cells #[.slice none 0 0, .int .i64 0, .int .i64 0, .int .i64 0, .int .i64 0, .int .i64 0, .int .i64 0, .int .i64 0] 120)).cell? ⟨w.heap.size, 0, none⟩ = some (.slice none 0 0) ∧ (x1.alloc (.cells #[.slice none 0 0, .int .i64 0, .int .i64 0, .int .i64 0, .int .i64 0, .int .i64 0, .int .i64 0, .int .i64 0] 120)).cell? ⟨w.heap.size, 1, none⟩ = some (.int .i64 0) ∧ (x1.alloc (.cells #[.slice none 0 0, .int .i64 0, .int .i64 0, .int .i64 0, .int .i64 0, .int .i64 0, .int .i64 0, .int .i64 0] 120)).cell? ⟨w.heap.size, 2, none⟩ = some (.int .i64 0) ∧ (x1.alloc (.cells #[.slice none 0 0, .int .i64 0, .int .i64 0, .int .i64 0, .int .i64 0, .int .i64 0, .int .i64 0, .int .i64 0] 120)).cell? ⟨w.heap.size, 3, none⟩ = some (.int .i64 0) ∧ (x1.alloc (.cells #[.slice none 0 0, .int .i64 0, .int .i64 0, .int .i64 0, .int .i64 0, .int .i64 0, .int .i64 0, .int .i64 0] 120)).cell? ⟨w.heap.size, 4, none⟩ = some (.int .i64 0) ∧ (x1.alloc (.cells #[.slice none 0 0, .int .i64 0, .int .i64 0, .int .i64 0, .int .i64 0, .int .i64 0, .int .i64 0, .int .i64 0] 120)).cell? ⟨w.heap.size, 5, none⟩ = some (.int .i64 0) ∧ (x1.alloc (.cells #[.slice none 0 0, .int .i64 0, .int .i64 0, .int .i64 0, .int .i64 0, .int .i64 0, .int .i64 0, .int .i64 0] 120)).cell? ⟨w.heap.size, 6, none⟩ = some (.int .i64 0) ∧ (x1.alloc (.cells #[.slice none 0 0, .int .i64 0, .int .i64 0, .int .i64 0, .int .i64 0, .int .i64 0, .int .i64 0, .int .i64 0] 120)).cell? ⟨w.heap.size, 7, none⟩ = some (.int .i64 0) := by refine ⟨?_, ?_, ?_, ?_, ?_, ?_, ?_, ?_⟩ <;> simp [go_sem, cP, *]
  obtain ⟨r0, r1, r2, r3, r4, r5, r6, r7⟩ : (x1.alloc (.cells #[.slice none 0 0, .int .i64 0, .int .i64 0, .int .i64 0, .int .i64 0, .int .i64 0, .int .i64 0, .int .i64 0] 120)).cell? ⟨x1.heap.size, 0, none⟩ = some (.slice none 0 0) ∧ (x1.alloc (.cells #[.slice none 0 0, .int .i64 0, .int .i64 0, .int .i64 0, .int .i64 0, .int .i64 0, .int .i64 0, .int .i64 0] 120)).cell? ⟨x1.heap.size, 1, none⟩ = some (.int .i64 0) ∧ (x1.alloc (.cells #[.slice none 0 0, .int .i64 0, .int .i64 0, .int .i64 0, .int .i64 0, .int .i64 0, .int .i64 0, .int .i64 0] 120)).cell? ⟨x1.heap.size, 2, none⟩ = some (.int .i64 0) ∧ (x1.alloc (.cells #[.slice none 0 0, .int .i64 0, .int .i64 0, .int .i64 0, .int .i64 0, .int .i64 0, .int .i64 0, .int .i64 0] 120)).cell? ⟨x1.heap.size, 3, none⟩ = some (.int .i64 0) ∧ (x1.alloc (.cells #[.slice none 0 0, .int .i64 0, .int .i64 0, .int .i64 0, .int .i64 0, .int .i64 0, .int .i64 0, .int .i64 0] 120)).cell? ⟨x1.heap.size, 4, none⟩ = some (.int .i64 0) ∧ (x1.alloc (.cells #[.slice none 0 0, .int .i64 0, .int .i64 0, .int .i64 0, .int .i64 0, .int .i64 0, .int .i64 0, .int .i64 0] 120)).cell? ⟨x1.heap.size, 5, none⟩ = some (.int .i64 0) ∧ (x1.alloc (.cells #[.slice none 0 0, .int .i64 0, .int .i64 0, .int .i64 0, .int .i64 0, .int .i64 0, .int .i64 0, .int .i64 0] 120)).cell? ⟨x1.heap.size, 6, none⟩ = some (.int .i64 0) ∧ (x1.alloc (.cells #[.slice none 0 0, .int .i64 0, .int .i64 0, .int .i64 0, .int .i64 0, .int .i64 0, .int .i64 0, .int .i64 0] 120)).cell? ⟨x1.heap.size, 7, none⟩ = some (.int .i64 0) := by refine ⟨?_, ?_, ?_, ?_, ?_, ?_, ?_, ?_⟩ <;> simp [go_sem, cP, *]
  have df : ∀ j, (x1.alloc (.cells #[.slice none 0 0, .int .i64 0, .int .i64 0, .int .i64 0, .int .i64 0, .int .i64 0, .int .i64 0, .int .i64 0] 120)).frozen? ⟨w.heap.size, j, none⟩ = false := fun j => by simp [go_sem, *]
  have rf : ∀ j, (x1.alloc (.cells #[.slice none 0 0, .int .i64 0, .int .i64 0, .int .i64 0, .int .i64 0, .int .i64 0, .int .i64 0, .int .i64 0] 120)).frozen? ⟨x1.heap.size, j, none⟩ = false := fun j => by simp [go_sem, *]
  have hBy : Below w.heap.size w (x1.alloc (.cells #[.slice none 0 0, .int .i64 0, .int .i64 0, .int .i64 0, .int .i64 0, .int .i64 0, .int .i64 0, .int .i64 0] 120)) := hB1.alloc hB1.size _
  have hzy : (x1.alloc (.cells #[.slice none 0 0, .int .i64 0, .int .i64 0, .int .i64 0, .int .i64 0, .int .i64 0, .int .i64 0, .int .i64 0] 120)).heap.size = x1.heap.size + 1 := by simp
  have lwr : w.heap.size < rb := by rw [← hrb.out]; exact lw
  clear c0 c1 c2 c3 c4 c5 c6 c7 cf hB1
  generalize hW : x1.alloc (.cells #[.slice none 0 0, .int .i64 0, .int .i64 0, .int .i64 0, .int .i64 0, .int .i64 0, .int .i64 0, .int .i64 0] 120) = y0 at *
  clear hW
  rw [hrb.out] at *
  clear hrb
  have hLy : Hid (SlRows veV 3 w A L) := hL
  have hbr : w.heap.size ≠ rb := by omega
  go_loopw [26] (fun i wr => ∃ (k : Nat) (V : Value), k ≤ n ∧ i = .int .i64 k ∧ wr.cell? ⟨rb, 0, none⟩ = some V ∧ (wr.cell? ⟨rb, 1, none⟩ = some (.int .i64 0) ∧ wr.cell? ⟨rb, 2, none⟩ = some (.int .i64 0) ∧ wr.cell? ⟨rb, 3, none⟩ = some (.int .i64 0) ∧ wr.cell? ⟨rb, 4, none⟩ = some (.int .i64 0) ∧ wr.cell? ⟨rb, 5, none⟩ = some (.int .i64 0) ∧ wr.cell? ⟨rb, 6, none⟩ = some (.int .i64 0) ∧ wr.cell? ⟨rb, 7, none⟩ = some (.int .i64 0)) ∧ (∀ j, wr.frozen? ⟨rb, j, none⟩ = false) ∧ Hid (wr.ownsRow (rb + 1) 131 6 V k (rowsV hdV ((L.take k).map hd0))) ∧ Below w.heap.size w wr ∧ BelowE rb (rb + 1) y0 wr) (fun i _ => n - (intOf i).toNat)
  case atStart => exact ⟨0, _, by omega, rfl, r0, ⟨r1, r2, r3, r4, r5, r6, r7⟩, rf, World.ownsRow_nil _ _ _ _, hBy, BelowE.of (Below.refl (rb + 1) y0) (Nat.le_refl _)⟩
  case round =>
    obtain ⟨k, V, hk, rfl, q0, ⟨q1, q2, q3, q4, q5, q6, q7⟩, qf, HO, hB, hE0⟩ := hrel
    have sz := hB.size
    have sz0 := hE0.size
    have lrb : rb < wr.heap.size := by omega
    by_cases hkn : k < n
    · have hkl : k < L.length := by have := hlen.out; omega
      have kn : (k : Int) < (n : Int) := by omega
      rcases hL.out with hnil | ⟨v, off, rfl, hlt, hR⟩
      · rw [hnil] at hkl; simp at hkl
      obtain ⟨a0, a1, a2⟩ := ve_at (hR.below hB hlt) hkl
      obtain ⟨x, hx⟩ : ∃ x, Hid (L[k].nm = x) := ⟨_, Lib.hid rfl⟩
      obtain ⟨y, hy⟩ : ∃ x, Hid (L[k].v = x) := ⟨_, Lib.hid rfl⟩
      obtain ⟨z, hz⟩ : ∃ x, Hid (L[k].m = x) := ⟨_, Lib.hid rfl⟩
      have HN : Hid (rowsV hdV ((L.take (k + 1)).map hd0) = rowsV hdV ((L.take k).map hd0) ++ [.string x, .int .i64 y, .int .i64 z, .int .i64 0, .int .i64 0, .int .i64 0]) := Lib.hid (by rw [take_map_succ hkl]; simp only [hdV, hd0]; rw [hx.out, hy.out, hz.out])
      rw [hx.out] at a0
      rw [hy.out] at a1
      rw [hz.out] at a2
      have n1 : v ≠ wr.heap.size := by omega
      have n2 : v < wr.heap.size := by omega
      have n3 : rb ≠ wr.heap.size := by omega
      have n4 : rb < wr.heap.size + 1 := by omega
      have n5 : wr.heap.size ≠ rb := by omega
      clear hx hy hz
      go_wp2_with (at_builtin; refine wpList_append_own_at _ rfl _ _ 118 rfl (rb + 1) 131 i0 (.agg #[.string ⟨#[]⟩, .int .i64 0, .int .i64 0, .int .i64 0, .int .i64 0, .int .i64 0]) 6 56 Try.underlying118 HI.out HZ0.out HZ1.out HZ2.out rfl (by decide) _ _ _ rfl (by exact World.ownsRow.alloc (World.ownsRow.alloc HO.out _) _) ⟨wr.heap.size + 1, 0, none⟩ 1 1 [.string x, .int .i64 y, .int .i64 z, .int .i64 0, .int .i64 0, .int .i64 0] rfl rfl ?c0 ?c1 ?c2 ?c3 ?c4 ?_)
      case c0 =>
        intro j u hj
        match j, hj with
        | 0, hj => simp at hj; subst hj; simp [Addr.add, go_sem]
        | 1, hj => simp at hj; subst hj; simp [Addr.add, go_sem]
        | 2, hj => simp at hj; subst hj; simp [Addr.add, go_sem]
        | 3, hj => simp at hj; subst hj; simp [Addr.add, go_sem]
        | 4, hj => simp at hj; subst hj; simp [Addr.add, go_sem]
        | 5, hj => simp at hj; subst hj; simp [Addr.add, go_sem]
      case c1 => intro u hu; simp at hu; rcases hu with rfl | rfl | rfl | rfl <;> rfl
      case c2 => unfold maxLen; omega
      case c3 => omega
      case c4 => simp; omega
      intro v' g' hown hgrow hnn hblk
      obtain ⟨vg, vc, rfl, og, oh, oc, of⟩ := own_openF (n := k) hown
      clear og oh oc of
      have ob := own_blockF HO.out
      have hBr := (Below.refl (rb + 1) _).grown hgrow (by simp; omega) (fun q hq => by have := ob q hq; omega)
      have hBw : Below w.heap.size w ((wr.alloc (.cells #[.string x, .int .i64 y, .int .i64 z] 69)).alloc (.cells #[.string x, .int .i64 y, .int .i64 z, .int .i64 0, .int .i64 0, .int .i64 0] 131)) := (hB.alloc hB.size _).alloc (hB.alloc hB.size _).size _
      have hBg : Below w.heap.size w g' := hBw.grown hgrow (by simp; omega) (fun q hq => by have := ob q hq; omega)
      have hBw2 : Below (rb + 1) wr g' := (((Below.refl (rb + 1) wr).alloc (by omega) _).alloc (by simp; omega) _).trans hBr
      have pc : ∀ j, g'.cell? ⟨rb, j, none⟩ = wr.cell? ⟨rb, j, none⟩ := fun j => hBw2.cell (p := ⟨rb, j, none⟩) (show rb < rb + 1 by omega)
      obtain ⟨p0, p1, p2, p3, p4, p5, p6, p7⟩ : g'.cell? ⟨rb, 0, none⟩ = some V ∧ g'.cell? ⟨rb, 1, none⟩ = some (.int .i64 0) ∧ g'.cell? ⟨rb, 2, none⟩ = some (.int .i64 0) ∧ g'.cell? ⟨rb, 3, none⟩ = some (.int .i64 0) ∧ g'.cell? ⟨rb, 4, none⟩ = some (.int .i64 0) ∧ g'.cell? ⟨rb, 5, none⟩ = some (.int .i64 0) ∧ g'.cell? ⟨rb, 6, none⟩ = some (.int .i64 0) ∧ g'.cell? ⟨rb, 7, none⟩ = some (.int .i64 0) := by refine ⟨?_, ?_, ?_, ?_, ?_, ?_, ?_, ?_⟩ <;> (rw [pc]; assumption)
      have pf : ∀ j, g'.frozen? ⟨rb, j, none⟩ = false := fun j => by rw [hBw2.frozen (p := ⟨rb, j, none⟩) (show rb < rb + 1 by omega)]; exact qf j
      have HOW : Hid ((g'.setCell ⟨rb, 0, none⟩ (.slice (some ⟨vg, 0, none⟩) (k + 1) vc)).ownsRow (rb + 1) 131 6 (.slice (some ⟨vg, 0, none⟩) (k + 1) vc) (k + 1) (rowsV hdV ((L.take (k + 1)).map hd0))) := Lib.hid (by rw [HN.out, List.map_take]; exact ownsRowF_setCell_below (a := ⟨rb, 0, none⟩) hown (by show rb < rb + 1; omega) _)
      have hE1 : BelowE rb (rb + 1) y0 (g'.setCell ⟨rb, 0, none⟩ (.slice (some ⟨vg, 0, none⟩) (k + 1) vc)) := (hE0.trans (BelowE.of hBw2 (Nat.le_refl _))).trans (BelowE.setB rb (rb + 1) g' 0 (.slice (some ⟨vg, 0, none⟩) (k + 1) vc))
      have hB2 : Below w.heap.size w (g'.setCell ⟨rb, 0, none⟩ (.slice (some ⟨vg, 0, none⟩) (k + 1) vc)) := hBg.setCell (by show w.heap.size ≤ rb; omega) _
      clear hown hgrow hnn hblk hBr hBw hBg HO
      go_wp2
      go_roundw
      case rel => exact ⟨k + 1, _, by omega, by go_num, by simp [go_sem, *], by refine ⟨?_, ?_, ?_, ?_, ?_, ?_, ?_⟩ <;> simp [go_sem, *], fun j => by simp [go_sem, *], HOW, hB2, hE1⟩
      case measure => simp [intOf]; omega
    · have hkk : k = n := by omega
      subst hkk
      have kn : ¬ (k : Int) < (k : Int) := by omega
      have hHO : wr.ownsRow (rb + 1) 131 6 V k (rowsV hdV (L.map hd0)) := by have := HO.out; rw [List.take_of_length_le (by have := hlen.out; omega)] at this; exact this
      obtain ⟨A', vb, cap', rfl, hvb, hvs⟩ := held_of hHO (by rw [List.length_map]; exact hlen.out)
      have hRm : Hid (RmAt wr rb vb k cap' A' (rm0 L)) := Lib.hid ⟨q0, q1, q2, q3, q4, q5, q6, q7, qf, lrb, by show k = (L.map hd0).length; rw [List.length_map]; exact hlen.out, hl, hvs⟩
      have hD0 : BelowD rb vb (rb + 1) y0 wr := hE0.toD
      clear hHO hvs HO hE0 q0 q1 q2 q3 q4 q5 q6 q7 qf
      have hBv : w.heap.size ≠ vb := by omega
      go_wp2_with fail
      go_loopw [40] (fun i wq => ∃ (j : Nat), j ≤ m ∧ i = .int .i64 j ∧ Hid (RmAt wq rb vb k cap' A' (runR (rm0 L) (X.take j))) ∧ Hid (RmOk (runR (rm0 L) (X.take j)) j) ∧ Hid (dia (runR (rm0 L) (X.take j)) (X.drop j) j = (N, E)) ∧ Below w.heap.size w wq ∧ BelowD rb vb (rb + 1) y0 wq) (fun i _ => m - (intOf i).toNat)
      case atStart => exact ⟨0, by omega, rfl, hRm, hok, hD, hB, hD0⟩
      case round =>
        obtain ⟨j, hj, rfl, hRj, hOj, hDj, hBq, hDq⟩ := hrel
        have sq := hBq.size
        have sq0 := hDq.size
        obtain ⟨e0, e1, e2, e3, e4, e5, e6, e7⟩ : wr.cell? ⟨w.heap.size, 0, none⟩ = some (.slice none 0 0) ∧ wr.cell? ⟨w.heap.size, 1, none⟩ = some (.int .i64 0) ∧ wr.cell? ⟨w.heap.size, 2, none⟩ = some (.int .i64 0) ∧ wr.cell? ⟨w.heap.size, 3, none⟩ = some (.int .i64 0) ∧ wr.cell? ⟨w.heap.size, 4, none⟩ = some (.int .i64 0) ∧ wr.cell? ⟨w.heap.size, 5, none⟩ = some (.int .i64 0) ∧ wr.cell? ⟨w.heap.size, 6, none⟩ = some (.int .i64 0) ∧ wr.cell? ⟨w.heap.size, 7, none⟩ = some (.int .i64 0) := by refine ⟨?_, ?_, ?_, ?_, ?_, ?_, ?_, ?_⟩ <;> (rw [hDq.cell (by omega) (by omega) (by omega)]; assumption)
        have ef : ∀ j, wr.frozen? ⟨w.heap.size, j, none⟩ = false := fun j => by rw [hDq.frozen (by omega) (by omega) (by omega)]; exact df j
        have lrq : rb < wr.heap.size := by omega
        by_cases hjm : j < m
        · have hjl : j < X.length := by have := hm.out; omega
          have jn : (j : Int) < (m : Int) := by omega
          rcases hX.out with hnil | ⟨u, off, rfl, hlt, hR⟩
          · rw [hnil] at hjl; simp at hjl
          obtain ⟨f0, f1, f2, f3, f4, f5, f6, f7⟩ := fl_at (hR.below hBq hlt) hjl
          have hd := hDj.out
          rw [dia_drop hjl] at hd
          have hrt := runR_take (r := rm0 L) hjl
          obtain ⟨x, hx⟩ : ∃ x, Hid (X[j] = x) := ⟨_, Lib.hid rfl⟩
          obtain ⟨r, hr⟩ : ∃ r, Hid (runR (rm0 L) (X.take j) = r) := ⟨_, Lib.hid rfl⟩
          rw [hx.out, hr.out] at hd hrt
          rw [hx.out] at f0 f1 f2 f3 f4 f5 f6 f7
          rw [hr.out] at hRj hOj
          obtain ⟨S, hS⟩ : ∃ S, Hid (stpE r x = S) := ⟨_, Lib.hid rfl⟩
          have hcall : Hid (∀ wy, RmAt wy rb vb k cap' A' r → Calls Try.prog 65 #[.pointer (some ⟨rb, 0, none⟩), .agg #[.int .i64 x.k, .int .i64 x.d, .string x.fr, .string x.tz, .int .i64 x.o, .int .i64 x.h, .int .i64 x.am, .bool x.pu]] wy (fun e w' => e = .returned (.int .i64 S) ∧ (S = 0 → RmAt w' rb vb k cap' A' (stpR r x) ∧ RmOk (stpR r x) (j + 1)) ∧ BelowD rb vb wy.heap.size wy w')) := Lib.hid (fun wy hy => (add_any rb vb k cap' j A' r x wy hy hOj.out (by omega)).mono (fun e w' h => ⟨h.1.trans (ret_int hS.out), fun z => h.2.1 (hS.out.trans z), h.2.2⟩))
          have m1 : u ≠ wr.heap.size := by omega
          have m2 : u < wr.heap.size := by omega
          rw [hS.out] at hd
          have hd := Lib.hid hd
          have hrt := Lib.hid hrt
          clear hx hr hS hDj hR hOj
          go_wp2_with fail
          refine (hcall.out _ (hRj.out.below ((Below.refl _ _).alloc (Nat.le_refl _) _))).mono ?_
          rintro e wz ⟨rfl, hnext, hDz⟩
          have zz := hDz.size
          try simp at zz
          have hDz2 : BelowD rb vb wr.heap.size wr wz := (BelowD.of ((Below.refl wr.heap.size wr).alloc (Nat.le_refl _) _) (Nat.le_refl _)).trans ⟨hDz.os, hDz.tape, hDz.output, hDz.size, fun i hi h1 h2 => hDz.block i (by simp; omega) h1 h2⟩
          obtain ⟨g0, g1, g2, g3, g4, g5, g6, g7⟩ : wz.cell? ⟨w.heap.size, 0, none⟩ = some (.slice none 0 0) ∧ wz.cell? ⟨w.heap.size, 1, none⟩ = some (.int .i64 0) ∧ wz.cell? ⟨w.heap.size, 2, none⟩ = some (.int .i64 0) ∧ wz.cell? ⟨w.heap.size, 3, none⟩ = some (.int .i64 0) ∧ wz.cell? ⟨w.heap.size, 4, none⟩ = some (.int .i64 0) ∧ wz.cell? ⟨w.heap.size, 5, none⟩ = some (.int .i64 0) ∧ wz.cell? ⟨w.heap.size, 6, none⟩ = some (.int .i64 0) ∧ wz.cell? ⟨w.heap.size, 7, none⟩ = some (.int .i64 0) := by refine ⟨?_, ?_, ?_, ?_, ?_, ?_, ?_, ?_⟩ <;> (rw [hDz2.cell (by omega) (by omega) (by omega)]; assumption)
          have gf : ∀ j, wz.frozen? ⟨w.heap.size, j, none⟩ = false := fun j => by rw [hDz2.frozen (by omega) (by omega) (by omega)]; exact ef j
          have hBz : Below w.heap.size w wz := ⟨hDz2.os.trans hBq.os, hDz2.tape.trans hBq.tape, hDz2.output.trans hBq.output, Nat.le_trans hBq.size hDz2.size, fun i hi => (hDz2.block i (by omega) (by omega) (by omega)).trans (hBq.block i hi)⟩
          have hDy : BelowD rb vb (rb + 1) y0 wz := hDq.trans ⟨hDz2.os, hDz2.tape, hDz2.output, hDz2.size, fun i hi h1 h2 => hDz2.block i (by omega) h1 h2⟩
          clear hDz hDz2 hDq hBq e0 e1 e2 e3 e4 e5 e6 e7 ef hcall hRj
          by_cases hz : S = 0
          · subst hz
            have hd2 := hd.out
            rw [if_pos rfl] at hd2
            obtain ⟨h1, h2⟩ := hnext rfl
            rw [← hrt.out] at h1 h2 hd2
            have h1 := Lib.hid h1
            have h2 := Lib.hid h2
            have hd2 := Lib.hid hd2
            clear hd hrt hnext
            go_wp2
            go_roundw
            case rel => exact ⟨j + 1, by omega, by go_num, h1, h2, hd2, hBz, hDy⟩
            case measure => simp [intOf]; omega
          · have hd2 := hd.out
            rw [if_neg hz] at hd2
            obtain ⟨rfl, rfl⟩ := Prod.mk.inj hd2
            have hz2 : (S != 0) = true := by simpa using hz
            clear hd hrt hnext hd2
            go_wp2
            refine bodyPost_ret (v := .tuple #[.agg #[.slice none 0 0, .int .i64 0, .int .i64 0, .int .i64 0, .int .i64 0, .int .i64 0, .int .i64 0, .int .i64 0], .int .i64 j, .int .i64 S]) (by simp [results, Try.results58, go_sem, *]) rfl (Or.inl ⟨hz, rfl, ?_⟩)
            exact belA
        · have hjj : j = m := by omega
          subst hjj
          have jn : ¬ (j : Int) < (j : Int) := by omega
          have hd := hDj.out
          rw [List.drop_eq_nil_of_le (by have := hm.out; omega)] at hd
          obtain ⟨rfl, rfl⟩ := Prod.mk.inj hd
          rw [List.take_of_length_le (by have := hm.out; omega)] at hRj
          rw [hr.out] at hRj
          obtain ⟨s0, s1, s2, s3, s4, s5, s6, s7, sf, -, sn, -, sv⟩ := hRj.out
          have sv := Lib.hid sv
          have hnr : rb ≠ w.heap.size := by omega
          have lwq : w.heap.size < wr.heap.size := by omega
          clear hRj hd hDj hOj hDq
          go_wp2
          refine bodyPost_ret (v := .tuple #[.agg #[.slice A' k cap', .int .i64 r.g0, .int .i64 r.g1, .int .i64 r.g2, .int .i64 r.k0, .int .i64 r.k1, .int .i64 r.k2, .int .i64 r.dy], .int .i64 0, .int .i64 0]) (by simp [results, Try.results58, go_sem, *]) rfl (Or.inr ⟨rfl, A', vb, cap', k, rfl, sn, ?_, ?_⟩)
          · rcases sv.out with h | ⟨e, lv2, nv2, hR2, nf⟩
            · exact Or.inl h
            · refine Or.inr ⟨e, by omega, by simpa using lv2, fun kk hkk ii hii => ?_, fun j => ?_⟩
              · rw [← hR2 kk hkk ii hii]
                simp [go_sem, *]
              · simp [go_sem, *]
          · exact belA
end Go.Proofs.Ytjkhjjmmkdfjmaa
