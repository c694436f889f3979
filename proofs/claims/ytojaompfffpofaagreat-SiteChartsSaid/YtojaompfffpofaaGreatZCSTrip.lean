import Derived.Test.YtojaompfffpofaaGreatZCSChart
import Derived.Outline
namespace Go.Proofs.YtojaompfffpofaaGreat
open Go.ChangeShapes Go.WideShapes Go.ChangeAt Go.RowKit
set_option linter.unusedVariables false
set_option linter.unusedSimpArgs false
attribute [local go_sem ↓] Go.wp_at_zero Go.wp_at_succ
/-- A way: its places, none where there is none, and its minutes. -/
structure Tp where
  ps : List Int
  mi : Int
instance : Inhabited Tp := ⟨⟨[], 0⟩⟩
def gTake (T : List Tp) (b t : Nat) (m : Int) : Bool := !(m == -1) && ((T.getD t default).ps.isEmpty || decide ((T.getD b default).mi + m < (T.getD t default).mi))
def gStep (T : List Tp) (b t : Nat) (m : Int) : List Tp := if gTake T b t m = true then T.set t ⟨(T.getD b default).ps ++ [(t : Int)], (T.getD b default).mi + m⟩ else T
def gRow (T : List Tp) (b : Nat) (R : List Int) : Nat → List Tp
  | 0 => T
  | k + 1 => gStep (gRow T b R k) b k (R.getD k 0)
def gOn (T : List Tp) (b : Nat) (R : List Int) : List Tp := if (T.getD b default).ps.isEmpty = true then T else gRow T b R R.length
def gAll (T : List Tp) (M : List (List Int)) : Nat → List Tp
  | 0 => T
  | k + 1 => gOn (gAll T M k) k (M.getD k [])
def gRnd (T : List Tp) (M : List (List Int)) (n : Nat) : Nat → List Tp
  | 0 => T
  | r + 1 => gAll (gRnd T M n r) M n
theorem getD_set_eq {T : List Tp} {t : Nat} {x : Tp} (h : t < T.length) : (T.set t x).getD t default = x := by
  rw [getD_at (by simpa using h)]; simp
theorem getD_set_ne {T : List Tp} {t k : Nat} {x : Tp} (h : t ≠ k) : (T.set t x).getD k default = T.getD k default := by
  rw [List.getD_eq_getElem?_getD, List.getD_eq_getElem?_getD, List.getElem?_set_ne h]
theorem gStep_len (T : List Tp) (b t : Nat) (m : Int) : (gStep T b t m).length = T.length := by unfold gStep; split <;> simp
theorem gRow_len (T : List Tp) (b : Nat) (R : List Int) : ∀ k, (gRow T b R k).length = T.length
  | 0 => rfl
  | k + 1 => by rw [gRow, gStep_len, gRow_len T b R k]
theorem gOn_len (T : List Tp) (b : Nat) (R : List Int) : (gOn T b R).length = T.length := by unfold gOn; split; rfl; exact gRow_len _ _ _ _
theorem gAll_len (T : List Tp) (M : List (List Int)) : ∀ k, (gAll T M k).length = T.length
  | 0 => rfl
  | k + 1 => by rw [gAll, gOn_len, gAll_len T M k]
theorem gRnd_len (T : List Tp) (M : List (List Int)) (n : Nat) : ∀ k, (gRnd T M n k).length = T.length
  | 0 => rfl
  | k + 1 => by rw [gRnd, gAll_len, gRnd_len T M n k]
theorem gStep_ne {T : List Tp} {b t : Nat} {m : Int} (ht : t < T.length) {k : Nat} (h : (T.getD k default).ps ≠ []) : ((gStep T b t m).getD k default).ps ≠ [] := by
  unfold gStep
  split
  · by_cases e : t = k
    · subst e; rw [getD_set_eq ht]; simp
    · rw [getD_set_ne e]; exact h
  · exact h
theorem gRow_ne {T : List Tp} {b : Nat} {R : List Int} {q : Nat} (h : (T.getD q default).ps ≠ []) : ∀ k, k ≤ T.length → ((gRow T b R k).getD q default).ps ≠ []
  | 0, _ => h
  | k + 1, hk => gStep_ne (by rw [gRow_len]; omega) (gRow_ne h k (by omega))
/-- Bounds of ways. -/
def TpB (c : Nat) (T : List Tp) : Prop := ∀ k, (T.getD k default).ps.length ≤ c ∧ 0 ≤ (T.getD k default).mi ∧ (T.getD k default).mi ≤ 10000 * (c : Int)
theorem TpB.up {c d : Nat} {T : List Tp} (h : TpB c T) (hd : c ≤ d) : TpB d T := fun k => ⟨by have := (h k).1; omega, (h k).2.1, by have := (h k).2.2; omega⟩
theorem TpB.step {c : Nat} {T : List Tp} (h : TpB c T) {b t : Nat} {m : Int} (h1 : -1 ≤ m) (h2 : m ≤ 10000) : TpB (c + 1) (gStep T b t m) := by
  unfold gStep
  split
  · rename_i ht
    have hm : m ≠ -1 := by
      intro e
      unfold gTake at ht
      rw [e] at ht
      simp at ht
    intro k
    by_cases e : t = k
    · subst e
      by_cases ht2 : t < T.length
      · rw [getD_set_eq ht2]
        obtain ⟨b1, b2, b3⟩ := h b
        generalize T.getD b default = x at *
        refine ⟨by simp only [List.length_append, List.length_cons, List.length_nil]; omega, ?_, ?_⟩ <;> dsimp only <;> omega
      · rw [List.set_eq_of_length_le (by omega)]; exact (h.up (Nat.le_succ c)) t
    · rw [getD_set_ne e]; exact (h.up (Nat.le_succ c)) k
  · exact h.up (Nat.le_succ c)
theorem TpB.row {c : Nat} {T : List Tp} (h : TpB c T) {b : Nat} {R : List Int} (hR : ∀ j, -1 ≤ R.getD j 0 ∧ R.getD j 0 ≤ 10000) : ∀ k, TpB (c + k) (gRow T b R k)
  | 0 => h
  | k + 1 => (h.row hR k).step (hR k).1 (hR k).2
theorem TpB.on {c : Nat} {T : List Tp} (h : TpB c T) {b : Nat} {R : List Int} (hR : ∀ j, -1 ≤ R.getD j 0 ∧ R.getD j 0 ≤ 10000) : TpB (c + R.length) (gOn T b R) := by
  unfold gOn
  split
  · exact h.up (by omega)
  · exact h.row hR _
/-- Ways in memory: the block of the records, each with a row of its own. -/
structure TrAt (w : World) (tb N : Nat) (T : List Tp) : Prop where
  row : ∀ k, k < T.length → w.cell? ⟨tb, k * 2 + 1, none⟩ = some (.int .i64 (T.getD k default).mi) ∧
    (((T.getD k default).ps = [] ∧ w.cell? ⟨tb, k * 2, none⟩ = some (.slice none 0 0)) ∨
      ((T.getD k default).ps ≠ [] ∧ ∃ g cap, w.cell? ⟨tb, k * 2, none⟩ = some (.slice (some ⟨g, 0, none⟩) (T.getD k default).ps.length cap) ∧ N ≤ g ∧ g ≠ tb ∧ g < w.heap.size ∧ RowsAt intV 1 w g 0 (T.getD k default).ps ∧ (T.getD k default).ps.length ≤ cap))
  lt : tb < w.heap.size
  fr : ∀ j, w.frozen? ⟨tb, j, none⟩ = false
theorem cell_offT {w : World} {b c i j : Nat} {v : Value} (h : b ≠ c ∨ i ≠ j) : (w.setCell ⟨b, i, none⟩ v).cell? ⟨c, j, none⟩ = w.cell? ⟨c, j, none⟩ := by
  refine World.cell?_setCell_other _ _ _ _ (fun e => ?_)
  injection e with e1 e2
  rcases h with h | h
  · exact h e1
  · exact h e2
theorem cell_sameT {w : World} {b i : Nat} {u v : Value} (h : w.cell? ⟨b, i, none⟩ = some v) : (w.setCell ⟨b, i, none⟩ u).cell? ⟨b, i, none⟩ = some u := World.cell?_setCell_same' _ _ _ (by rw [h]; rfl)
theorem TrAt.set {w : World} {tb N : Nat} {T : List Tp} (h : TrAt w tb N T) {t : Nat} (ht : t < T.length) {g cap n : Nat} {P : List Int} {mi : Int} (hn : n = P.length) (hP : P ≠ []) (hg : N ≤ g) (hgt : g ≠ tb) (hgl : g < w.heap.size) (hR : RowsAt intV 1 w g 0 P) (hcap : n ≤ cap) :
    TrAt ((w.setCell ⟨tb, t * 2, none⟩ (.slice (some ⟨g, 0, none⟩) n cap)).setCell ⟨tb, t * 2 + 1, none⟩ (.int .i64 mi)) tb N (T.set t ⟨P, mi⟩) := by
  subst hn
  have off : ∀ b i, b ≠ tb → ((w.setCell ⟨tb, t * 2, none⟩ (.slice (some ⟨g, 0, none⟩) P.length cap)).setCell ⟨tb, t * 2 + 1, none⟩ (.int .i64 mi)).cell? ⟨b, i, none⟩ = w.cell? ⟨b, i, none⟩ := fun b i hb => by
    rw [cell_offT (Or.inl (Ne.symm hb)), cell_offT (Or.inl (Ne.symm hb))]
  obtain ⟨z1, z2⟩ := h.row t ht
  refine ⟨fun k hk => ?_, by simpa using h.lt, fun j => by rw [World.frozen?_setCell, World.frozen?_setCell]; exact h.fr j⟩
  have hk' : k < T.length := by simpa using hk
  by_cases e : t = k
  · subst e
    rw [getD_set_eq ht]
    refine ⟨?_, Or.inr ⟨hP, g, cap, ?_, hg, hgt, by simpa using hgl, ?_, hcap⟩⟩
    · exact cell_sameT (v := .int .i64 (T.getD t default).mi) (by rw [cell_offT (Or.inr (by omega))]; exact z1)
    · rw [cell_offT (Or.inr (by omega))]
      rcases z2 with ⟨_, z2⟩ | ⟨_, g', cap', z2, _⟩
      · exact cell_sameT z2
      · exact cell_sameT z2
    · intro k hk i hi; rw [off _ _ hgt]; exact hR k hk i hi
  · rw [getD_set_ne e]
    obtain ⟨y1, y2⟩ := h.row k hk'
    refine ⟨by rw [cell_offT (Or.inr (by omega)), cell_offT (Or.inr (by omega))]; exact y1, ?_⟩
    rcases y2 with ⟨p, y2⟩ | ⟨p, g', cap', y2, q1, q2, q3, q4⟩
    · exact Or.inl ⟨p, by rw [cell_offT (Or.inr (by omega)), cell_offT (Or.inr (by omega))]; exact y2⟩
    · exact Or.inr ⟨p, g', cap', by rw [cell_offT (Or.inr (by omega)), cell_offT (Or.inr (by omega))]; exact y2, q1, q2, by simpa using q3, fun k hk i hi => by rw [off _ _ q2]; exact q4.1 k hk i hi, q4.2⟩
theorem TrAt.below {w w' : World} {tb N : Nat} {T : List Tp} (h : TrAt w tb N T) (hb : Below w.heap.size w w') : TrAt w' tb N T := by
  have z := hb.size
  refine ⟨fun k hk => ?_, by have := h.lt; omega, fun j => (hb.frozen (p := ⟨tb, j, none⟩) h.lt).trans (h.fr j)⟩
  obtain ⟨y1, y2⟩ := h.row k hk
  refine ⟨(hb.cell (p := ⟨tb, _, none⟩) h.lt).trans y1, ?_⟩
  rcases y2 with ⟨p, y2⟩ | ⟨p, g', cap', y2, q1, q2, q3, q4⟩
  · exact Or.inl ⟨p, (hb.cell (p := ⟨tb, _, none⟩) h.lt).trans y2⟩
  · exact Or.inr ⟨p, g', cap', (hb.cell (p := ⟨tb, _, none⟩) h.lt).trans y2, q1, q2, by omega, q4.1.below hb q3, q4.2⟩
theorem eqI0 (w : World) : (binOp .eql 81 (.slice none 0 0) (.slice none 0 0)).run Tryz.prog w = .ok (.bool true) w := by kernel_rfl
theorem eqI1 (a : Addr) (n c : Nat) (w : World) : (binOp .eql 81 (.slice (some a) n c) (.slice none 0 0)).run Tryz.prog w = .ok (.bool false) w := by kernel_rfl
theorem infoIn : (Tryz.prog.info? 3).map (fun i => (i.zero, i.size, i.bytes)) = some (some (.int .i64 0), 1, 8) := by kernel_rfl
theorem intV_one : ∀ g, ∀ u ∈ intV g, u.oneCell' = true := by
  intro g u hu
  simp [intV] at hu
  rw [hu]; rfl
/-- A copy of numbers in a row of its own. -/
def CloP (P : List Int) (n : Nat) (w : World) (e : Ending) (w' : World) : Prop := ∃ v, e = .returned v ∧ w'.ownsRow w.heap.size 3 1 v n (rowsV intV P) ∧ Below w.heap.size w w'
set_option maxRecDepth 100000 in
theorem cloneInt_is (P : List Int) (g cap n : Nat) (w : World) (hn : Hid (n = P.length)) (hl : n ≤ 100000) (hg : g < w.heap.size) (HR : Hid (RowsAt intV 1 w g 0 P)) :
    Calls Tryz.prog 149 #[.slice (some ⟨g, 0, none⟩) n cap] w (CloP P n w) := by
  have hB0 : Below w.heap.size w (w.alloc (.cells #[] 3)) := (Below.refl _ _).alloc (Nat.le_refl _) _
  have HC := Lib.hid (rowsV_cells (f := intV) (n := 1) (fun _ => rfl) (by decide) (HR.out.below hB0 hg))
  have HO := Lib.hid (World.ownsRow_made (base := w.heap.size) (e := 3) (size := 1) w #[] 0 (Nat.le_refl _) (by simp) (by simp))
  obtain ⟨i0, hi, hz0, hz1, hz2⟩ := info_partsS infoIn
  have HI := Lib.hid hi
  have HZ0 := Lib.hid hz0
  have HZ1 := Lib.hid hz1
  have HZ2 := Lib.hid hz2
  have HL := Lib.hid (rowsV_len (f := intV) (n := 1) (fun _ => rfl) P)
  rw [← hn.out] at HL
  have HF := Lib.hid (rows_one intV_one P)
  clear hi hz0 hz1 hz2 hB0
  have hen := eqI1 ⟨g, 0, none⟩ n cap
  go_enter Tryz.func149, Tryz.ntmps149
  go_wp2_with (at_builtin; refine wpList_append_own_at _ rfl _ _ 81 rfl w.heap.size 3 i0 (.int .i64 0) 1 8 Tryz.underlying81 HI.out HZ0.out HZ1.out HZ2.out rfl (by decide) _ 0 [] rfl HO.out ⟨g, 0, none⟩ n cap (rowsV intV P) rfl HL.out HC.out HF.out ?c1 ?c2 ?c3 ?_)
  case c1 => unfold maxLen; omega
  case c2 => omega
  case c3 => simp
  intro v' w1 hown hgrow _ hblk
  have hB : Below w.heap.size w w1 := ((Below.refl w.heap.size w).alloc (Nat.le_refl _) _).grown hgrow (by simp) (by intro k hk; simp [Value.ownBlock] at hk; omega)
  (try simp only [Nat.zero_add, List.nil_append] at hown)
  have HO1 := Lib.hid hown
  have HB := Lib.hid hB
  clear hown hgrow hblk hB
  go_wp2
  go_ret
  exact ⟨_, rfl, HO1.out, HB.out⟩
end Go.Proofs.YtojaompfffpofaaGreat
