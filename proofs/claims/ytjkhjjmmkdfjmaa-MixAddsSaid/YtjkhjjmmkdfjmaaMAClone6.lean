import Derived.Test.YtjkhjjmmkdfjmaaMACopyV
import Derived.Test.YtjkhjjmmkdfjmaaMABeh2
import Derived.Maps.AppendAt
import Derived.Laws.AppendOwnNone
import Derived.OwnWalk
import Derived.Outline
namespace Go.Proofs.Ytjkhjjmmkdfjmaa
open Go.ChangeShapes Go.WideShapes Go.ChangeAt Go.RowKit
set_option linter.unusedVariables false
set_option linter.unusedSimpArgs false
theorem oper_append_own_at {P : Program} {w : World} {o : Oper} {a : Act} {K : Act → World → Prop} {Q : Exit → Act → World → Prop} (s x : Operand) (t : TypeId)
    (ho : o.op = .call { callee := .builtin .append, args := #[s, x], argTypes := #[t, t] })
    (base : Nat) (e : TypeId) (i : TypeInfo) (z : Value) (size bytes : Nat) (ht : P.underlying t = some (.slice e)) (hi : P.info? e = some i) (hz : i.zero = some z)
    (hsize : i.size = size) (hby : i.bytes = bytes) (hzs : z.cells.size = size) (hsz : 0 < size)
    (v : Value) (n : Nat) (xs : List Value) (hs : a.eval s = v) (hown : w.ownsRow base e size v n xs)
    (ad : Addr) (m c : Nat) (news : List Value) (hx : a.eval x = .slice (some ad) m c) (hl : news.length = m * size) (hnews : ∀ j u, news[j]? = some u → w.cell? (ad.add j) = some u) (h1 : ∀ u ∈ news, u.oneCell' = true)
    (h63 : n + m ≤ maxLen) (hbytes : (n + m) * bytes ≤ 140737488355328) (hbase : base ≤ w.heap.size)
    (h : ∀ v' w', w'.ownsRow base e size v' (n + m) (xs ++ news) → w.grownBy w' v.ownBlock → K (a.put o.dst v') w') : o.wp P a w K Q := by
  obtain ⟨v', w', hr, h2, h3, _, _⟩ := run_append_own_at (P := P) w base t o.type e i z size bytes ht hi hz hsize hby hzs hsz v n xs hown ad m c news hl hnews h1 h63 hbytes hbase
  unfold Oper.wp execOp
  simp only [ho, resolve, invoke, builtin, Sem.run_bind, Sem.run_pure, Result.andThen_ok, List.map_toArray, List.map_cons, List.map_nil, hs, hx, hr]
  exact h v' w' h2 h3
/-- An append of a slice, nil or not, to a row of the call's own. -/
theorem oper_append_slice {P : Program} {w : World} {o : Oper} {a : Act} {K : Act → World → Prop} {Q : Exit → Act → World → Prop} (s x : Operand) (t : TypeId)
    (ho : o.op = .call { callee := .builtin .append, args := #[s, x], argTypes := #[t, t] })
    (base : Nat) (e : TypeId) (i : TypeInfo) (z : Value) (size bytes : Nat) (ht : P.underlying t = some (.slice e)) (hi : P.info? e = some i) (hz : i.zero = some z)
    (hsize : i.size = size) (hby : i.bytes = bytes) (hzs : z.cells.size = size) (hsz : 0 < size)
    (v : Value) (n : Nat) (xs : List Value) (hs : a.eval s = v) (hown : w.ownsRow base e size v n xs)
    (C : Option Addr) (m c : Nat) (news : List Value) (hx : a.eval x = .slice C m c) (hC : C = none → m = 0 ∧ c = 0) (hl : news.length = m * size) (hnews : ∀ ad, C = some ad → ∀ j u, news[j]? = some u → w.cell? (ad.add j) = some u) (h1 : ∀ u ∈ news, u.oneCell' = true)
    (h63 : n + m ≤ maxLen) (hbytes : (n + m) * bytes ≤ 140737488355328) (hbase : base ≤ w.heap.size)
    (h : ∀ v' w', w'.ownsRow base e size v' (n + m) (xs ++ news) → w.grownBy w' v.ownBlock → K (a.put o.dst v') w') : o.wp P a w K Q := by
  cases C with
  | some ad => exact oper_append_own_at s x t ho base e i z size bytes ht hi hz hsize hby hzs hsz v n xs hs hown ad m c news hx hl (hnews ad rfl) h1 h63 hbytes hbase h
  | none =>
    obtain ⟨rfl, rfl⟩ := hC rfl
    have hnw : news = [] := List.eq_nil_of_length_eq_zero (by rw [hl, Nat.zero_mul])
    subst hnw
    have hrun := run_append_owned_none (P := P) (w := w) base t o.type e i size ht hi v n xs hown
    unfold Oper.wp
    simp [execOp, ho, resolve, invoke, builtin, hs, hx, hrun, Result.andThen]
    exact h v w (by simpa using hown) (World.grownBy.refl _ _)
theorem dia_snoc {x : Fl} : ∀ (X : List Fl) (r : Rm) (i : Nat), (dia r X i).2 = 0 → dia r (X ++ [x]) i = if stpE (runR r X) x = 0 then (0, 0) else (i + X.length, stpE (runR r X) x)
  | [], r, i, _ => by by_cases h : stpE r x = 0 <;> simp [dia, runR, h]
  | y :: l, r, i, h => by
    by_cases hz : stpE r y = 0
    · have h' : (dia (stpR r y) l (i + 1)).2 = 0 := by simpa [dia, hz] using h
      have h2 := dia_snoc (x := x) l (stpR r y) (i + 1) h'
      show (if stpE r y = 0 then dia (stpR r y) (l ++ [x]) (i + 1) else _) = _
      rw [if_pos hz, h2, show i + 1 + l.length = i + (y :: l).length by simp; omega]
      rfl
    · exact absurd (by simp [dia, hz] at h) hz
/-- The error of a diary with one fill more. -/
def addE (L : List Ve) (X : List Fl) (x : Fl) : Int := if (behP L X).2 = 0 then (if 200 ≤ X.length then 8 else stpE (runR (rm0 L) X) x) else (behP L X).2
theorem beh_snoc {L : List Ve} {X : List Fl} {x : Fl} (h : (behP L X).2 = 0) : (behP L (X ++ [x])).2 = addE L X x := by
  unfold addE
  rw [if_pos h]
  unfold behP at h ⊢
  by_cases h1 : ctV L = 0
  · rw [if_pos h1] at h ⊢
    by_cases h2 : 200 < X.length
    · rw [if_pos h2] at h; exact absurd h (by decide)
    · rw [if_neg h2] at h
      by_cases h3 : 200 ≤ X.length
      · rw [if_pos (by simp; omega), if_pos h3]
      · rw [if_neg (by simp; omega), if_neg h3, dia_snoc X _ 0 h]
        by_cases h4 : stpE (runR (rm0 L) X) x = 0
        · rw [if_pos h4, h4]
        · rw [if_neg h4]
  · rw [if_neg h1] at h; exact absurd h h1
theorem beh_len {L : List Ve} {X : List Fl} (h : (behP L X).2 = 0) : L.length ≤ 20 ∧ X.length ≤ 200 := by
  unfold behP at h
  by_cases h1 : ctV L = 0
  · rw [if_pos h1] at h
    refine ⟨?_, ?_⟩
    · unfold ctV at h1
      by_cases h3 : 20 < L.length
      · rw [if_pos h3] at h1; exact absurd h1 (by decide)
      · omega
    · by_cases h2 : 200 < X.length
      · rw [if_pos h2] at h; exact absurd h (by decide)
      · omega
  · rw [if_neg h1] at h; exact absurd h h1
theorem eqF0 (w : World) : (binOp .eql 23 (.slice none 0 0) (.slice none 0 0)).run Try.prog w = .ok (.bool true) w := by kernel_rfl
theorem eqF1 (a : Addr) (n c : Nat) (w : World) : (binOp .eql 23 (.slice (some a) n c) (.slice none 0 0)).run Try.prog w = .ok (.bool false) w := by kernel_rfl
/-- A copy that its caller may let grow. -/
def ClonedFl (L : List Fl) (w : World) (e : Ending) (w' : World) : Prop := ∃ v, e = .returned v ∧ w'.ownsRow w.heap.size 38 8 v L.length (rowsV flV L) ∧ Below w.heap.size w w'
set_option maxRecDepth 100000 in
theorem cloneFl_some (L : List Fl) (ad : Addr) (cap : Nat) (w : World) (hl : L.length ≤ 1000000) (hP : ∀ j u, (rowsV flV L)[j]? = some u → (w.alloc (.cells #[] 38)).cell? (ad.add j) = some u) :
    Calls Try.prog 66 #[.slice (some ad) L.length cap] w (ClonedFl L w) := by
  have HC := Lib.hid hP
  have HO := Lib.hid (World.ownsRow_made (base := w.heap.size) (e := 38) (size := 8) w #[] 0 (Nat.le_refl _) (by simp) (by simp))
  obtain ⟨i0, hi, hz0, hz1, hz2⟩ := info_partsF infoFl
  have HI := Lib.hid hi
  have HZ0 := Lib.hid hz0
  have HZ1 := Lib.hid hz1
  have HZ2 := Lib.hid hz2
  have HL := Lib.hid (rowsV_len (f := flV) (n := 8) (fun _ => rfl) L)
  have HF := Lib.hid (rows_one flV_one L)
  clear hP hi hz0 hz1 hz2
  have hen := eqF1 ad L.length cap
  go_enter Try.func66, Try.ntmps66
  go_wp2_with (at_builtin; refine wpList_append_own_at _ rfl _ _ 23 rfl w.heap.size 38 i0 (.agg #[.int .i64 0, .int .i64 0, .string ⟨#[]⟩, .string ⟨#[]⟩, .int .i64 0, .int .i64 0, .int .i64 0, .bool false]) 8 80 Try.underlying23 HI.out HZ0.out HZ1.out HZ2.out rfl (by decide) _ 0 [] rfl HO.out ad L.length cap (rowsV flV L) rfl HL.out HC.out HF.out ?c1 ?c2 ?c3 ?_)
  case c1 => unfold maxLen; omega
  case c2 => omega
  case c3 => simp
  intro v' w1 hown hgrow _ hblk
  have hB : Below w.heap.size w w1 := ((Below.refl w.heap.size w).alloc (Nat.le_refl _) _).grown hgrow (by simp) (by intro k hk; simp [Value.ownBlock] at hk; omega)
  (try simp only [Nat.zero_add, List.nil_append] at hown)
  have HS := Lib.hid hown
  clear hown hgrow hblk
  go_wp2
  go_ret
  exact ⟨v', rfl, HS.out, hB⟩
theorem cloneFl_nil (w : World) : Calls Try.prog 66 #[.slice none 0 0] w (ClonedFl [] w) := by
  have hen := eqF0
  go_enter Try.func66, Try.ntmps66
  go_wp2
  go_ret
  exact ⟨_, rfl, World.ownsRow_nil _ _ _ _, belA⟩
theorem cloneFl_n (L : List Fl) (A : Option Addr) (cap n : Nat) (w : World) (hn : Hid (n = L.length)) (hl : n ≤ 1000000) (hc : A = none → cap = 0) (hS : SlRows flV 8 w A L) :
    Calls Try.prog 66 #[.slice A n cap] w (ClonedFl L w) := by
  obtain rfl := hn.out
  rcases hS with rfl | ⟨c, off, rfl, hlt, hP⟩
  · cases A with
    | none => rw [hc rfl]; exact cloneFl_nil w
    | some ad => exact cloneFl_some [] ad cap w (by simp) (by intro j u h; simp [rowsV] at h)
  · exact cloneFl_some L _ cap w hl (rowsV_cells (f := flV) (n := 8) (fun _ => rfl) (by decide) (hP.below (Below.alloc (Below.refl _ w) (Nat.le_refl _) (.cells #[] 38)) hlt))
end Go.Proofs.Ytjkhjjmmkdfjmaa
