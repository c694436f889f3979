import Derived.Test.YtijdphlejokijaaGreatERSBlk
import Derived.Maps.AppendAt
import Derived.Laws.AppendOwnNone
import Derived.OwnWalk
import Derived.Outline
import Derived.Test.YtijdphlejokijaaGreatERSLeaf
namespace Go.Proofs.YtijdphlejokijaaGreat
open Go.ChangeShapes Go.WideShapes Go.ChangeAt Go.RowKit
set_option linter.unusedVariables false
set_option linter.unusedSimpArgs false
theorem info_partsG {a : Option TypeInfo} {z : Option Value} {s b : Nat} (h : a.map (fun i => (i.zero, i.size, i.bytes)) = some (z, s, b)) : ∃ i, a = some i ∧ i.zero = z ∧ i.size = s ∧ i.bytes = b := by
  cases a with
  | none => simp at h
  | some i =>
    have h2 : (i.zero, i.size, i.bytes) = (z, s, b) := by simpa using h
    exact ⟨i, rfl, congrArg (·.1) h2, congrArg (·.2.1) h2, congrArg (·.2.2) h2⟩
theorem own_belowG {w w' : World} {base N : Nat} {e : TypeId} {s n : Nat} {v : Value} {xs : List Value} (h : w.ownsRow base e s v n xs) (hb : Below N w w') (hN : w.heap.size ≤ N) : w'.ownsRow base e s v n xs := by
  refine ⟨h.1, ?_⟩
  rcases h.2 with hn | ⟨g, cap, cur, rfl, hg, hgg, rest⟩
  · exact .inl hn
  · refine .inr ⟨g, cap, cur, rfl, hg, ?_, rest⟩
    rw [hb.block g (Nat.lt_of_lt_of_le (Array.getElem?_eq_some_iff.1 hgg).1 hN)]
    exact hgg
theorem own_blockG {w : World} {base : Nat} {e : TypeId} {s n : Nat} {v : Value} {xs : List Value} (h : w.ownsRow base e s v n xs) : ∀ k, v.ownBlock = some k → base ≤ k ∧ k < w.heap.size := by
  intro k hk
  rcases h.2 with ⟨rfl, _⟩ | ⟨g, cap, cur, rfl, hb, hg, _⟩
  · simp [Value.ownBlock] at hk
  · simp [Value.ownBlock] at hk; subst hk; exact ⟨hb, (Array.getElem?_eq_some_iff.1 hg).1⟩
theorem allocN (w : World) (o : Obj) : (w.alloc o).heap[w.heap.size]? = some o := by
  show (w.heap.push o)[w.heap.size]? = some o
  simp
theorem own_madeG {base : Nat} (w : World) (xs : List Value) (n size : Nat) (e : TypeId) (hb : base ≤ w.heap.size) (hl : xs.length = n * size) (hn : n ≤ maxLen) : (w.alloc (.cells xs.toArray e)).ownsRow base e size (.slice (some ⟨w.heap.size, 0, none⟩) n n) n xs :=
  ⟨hl, .inr ⟨w.heap.size, n, xs.toArray, rfl, hb, allocN w _, Nat.le_refl _, hn, by simpa using hl, by simp [← hl]⟩⟩
/-- What an append to a row of the call's own leaves. -/
theorem oper_append_slG {P : Program} {w : World} {o : Oper} {a : Act} {K : Act → World → Prop} {Q : Exit → Act → World → Prop} (s x : Operand) (t : TypeId)
    (ho : o.op = .call { callee := .builtin .append, args := #[s, x], argTypes := #[t, t] })
    (base : Nat) (e : TypeId) (i : TypeInfo) (z : Value) (size bytes : Nat) (ht : P.underlying t = some (.slice e)) (hi : P.info? e = some i) (hz : i.zero = some z)
    (hsize : i.size = size) (hby : i.bytes = bytes) (hzs : z.cells.size = size) (hsz : 0 < size)
    (v : Value) (n : Nat) (xs : List Value) (hs : a.eval s = v) (hown : w.ownsRow base e size v n xs)
    (C : Option Addr) (m c : Nat) (news : List Value) (hx : a.eval x = .slice C m c) (hC : C = none → m = 0 ∧ c = 0) (hl : news.length = m * size) (hnews : ∀ ad, C = some ad → ∀ j u, news[j]? = some u → w.cell? (ad.add j) = some u) (h1 : ∀ u ∈ news, u.oneCell' = true)
    (h63 : n + m ≤ maxLen) (hbytes : (n + m) * bytes ≤ 140737488355328) (hbase : base ≤ w.heap.size)
    (h : ∀ v' w', w'.ownsRow base e size v' (n + m) (xs ++ news) → w.grownBy w' v.ownBlock → (∀ k, v'.ownBlock = some k → v.ownBlock = some k ∨ w.heap.size ≤ k) → K (a.put o.dst v') w') : o.wp P a w K Q := by
  cases C with
  | some ad =>
    obtain ⟨v', w', hr, h2, h3, h4, h5⟩ := run_append_own_at (P := P) w base t o.type e i z size bytes ht hi hz hsize hby hzs hsz v n xs hown ad m c news hl (hnews ad rfl) h1 h63 hbytes hbase
    unfold Oper.wp execOp
    simp only [ho, resolve, invoke, builtin, Sem.run_bind, Sem.run_pure, Result.andThen_ok, List.map_toArray, List.map_cons, List.map_nil, hs, hx, hr]
    exact h v' w' h2 h3 (fun k hk => by rcases h5 with h6 | h6 <;> rw [h6] at hk; exact Or.inl hk; injection hk with hk; exact Or.inr (by omega))
  | none =>
    obtain ⟨rfl, rfl⟩ := hC rfl
    have hnw : news = [] := List.eq_nil_of_length_eq_zero (by rw [hl, Nat.zero_mul])
    subst hnw
    have hrun := run_append_owned_none (P := P) (w := w) base t o.type e i size ht hi v n xs hown
    unfold Oper.wp
    simp [execOp, ho, resolve, invoke, builtin, hs, hx, hrun, Result.andThen]
    exact h v w (by simpa using hown) (World.grownBy.refl _ _) (fun k hk => Or.inl hk)
theorem wpList_append_slG {P : Program} {ops : Array Oper} {rest : List Oper} {w : World} {o : Oper} {a : Act} {Q : Exit → Act → World → Prop} (hgd : o.guard = none) (s x : Operand) (t : TypeId)
    (ho : o.op = .call { callee := .builtin .append, args := #[s, x], argTypes := #[t, t] })
    (base : Nat) (e : TypeId) (i : TypeInfo) (z : Value) (size bytes : Nat) (ht : P.underlying t = some (.slice e)) (hi : P.info? e = some i) (hz : i.zero = some z)
    (hsize : i.size = size) (hby : i.bytes = bytes) (hzs : z.cells.size = size) (hsz : 0 < size)
    (v : Value) (n : Nat) (xs : List Value) (hs : a.eval s = v) (hown : w.ownsRow base e size v n xs)
    (C : Option Addr) (m c : Nat) (news : List Value) (hx : a.eval x = .slice C m c) (hC : C = none → m = 0 ∧ c = 0) (hl : news.length = m * size) (hnews : ∀ ad, C = some ad → ∀ j u, news[j]? = some u → w.cell? (ad.add j) = some u) (h1 : ∀ u ∈ news, u.oneCell' = true)
    (h63 : n + m ≤ maxLen) (hbytes : (n + m) * bytes ≤ 140737488355328) (hbase : base ≤ w.heap.size)
    (h : ∀ v' w', w'.ownsRow base e size v' (n + m) (xs ++ news) → w.grownBy w' v.ownBlock → (∀ k, v'.ownBlock = some k → v.ownBlock = some k ∨ w.heap.size ≤ k) → wpList P ops Q rest (a.put o.dst v') w') : wpList P ops Q (o :: rest) a w :=
  wpList_plain hgd fun _ hK => oper_append_slG s x t ho base e i z size bytes ht hi hz hsize hby hzs hsz v n xs hs hown C m c news hx hC hl hnews h1 h63 hbytes hbase (fun v' w' a b c => hK _ _ (h v' w' a b c))
/-- A slice of records as the source of an append. -/
theorem srcG {α : Type} {f : α → List Value} {n : Nat} (hf : ∀ g, (f g).length = n) (hn : 0 < n) {V : World} {A : Option Addr} {L : List α} (h : SlRows f n V A L) : ∀ ad, A = some ad → ∀ j u, (rowsV f L)[j]? = some u → V.cell? (ad.add j) = some u := by
  intro ad had j u hj
  rcases h with h | ⟨b, off, rfl, hlt, h⟩
  · rw [h] at hj; simp [rowsV] at hj
  · cases had; exact rowsV_cells (f := f) (n := n) hf hn h j u hj
theorem rowsV_appG {α : Type} (f : α → List Value) (L M : List α) : rowsV f (L ++ M) = rowsV f L ++ rowsV f M := by simp [rowsV]
end Go.Proofs.YtijdphlejokijaaGreat

namespace Go.Proofs.YtijdphlejokijaaGreat
open Go.ChangeShapes Go.WideShapes Go.ChangeAt Go.RowKit
set_option linter.unusedVariables false
set_option linter.unusedSimpArgs false
structure Ga where
  o : Int
  h : Int
instance : Inhabited Ga := ⟨⟨0, 0⟩⟩
def gaV (x : Ga) : List Value := [.int .i64 x.o, .int .i64 x.h]
structure Le where
  s : Int
  d : Int
  g : Int
instance : Inhabited Le := ⟨⟨0, 0, 0⟩⟩
def leV (x : Le) : List Value := [.int .i64 x.s, .int .i64 x.d, .int .i64 x.g]
structure Pt where
  s : Int
  d : Int
instance : Inhabited Pt := ⟨⟨0, 0⟩⟩
def ptV (x : Pt) : List Value := [.int .i64 x.s, .int .i64 x.d]
structure Ox where
  f : Int
  r : Int
instance : Inhabited Ox := ⟨⟨0, 0⟩⟩
def oxV (x : Ox) : List Value := [.int .i64 x.f, .int .i64 x.r]
theorem ga_at {w : World} {b off : Nat} {L : List Ga} (h : RowsAt gaV 2 w b off L) {k : Nat} (hk : k < L.length) : w.cell? ⟨b, off + k * 2, none⟩ = some (.int .i64 L[k].o) ∧ w.cell? ⟨b, off + k * 2 + 1, none⟩ = some (.int .i64 L[k].h) := ⟨h k hk 0 (by omega), h k hk 1 (by omega)⟩
theorem le_at {w : World} {b off : Nat} {L : List Le} (h : RowsAt leV 3 w b off L) {k : Nat} (hk : k < L.length) : w.cell? ⟨b, off + k * 3, none⟩ = some (.int .i64 L[k].s) ∧ w.cell? ⟨b, off + k * 3 + 1, none⟩ = some (.int .i64 L[k].d) ∧ w.cell? ⟨b, off + k * 3 + 2, none⟩ = some (.int .i64 L[k].g) := ⟨h k hk 0 (by omega), h k hk 1 (by omega), h k hk 2 (by omega)⟩
theorem pt_at {w : World} {b off : Nat} {L : List Pt} (h : RowsAt ptV 2 w b off L) {k : Nat} (hk : k < L.length) : w.cell? ⟨b, off + k * 2, none⟩ = some (.int .i64 L[k].s) ∧ w.cell? ⟨b, off + k * 2 + 1, none⟩ = some (.int .i64 L[k].d) := ⟨h k hk 0 (by omega), h k hk 1 (by omega)⟩
theorem ox_at {w : World} {b off : Nat} {L : List Ox} (h : RowsAt oxV 2 w b off L) {k : Nat} (hk : k < L.length) : w.cell? ⟨b, off + k * 2, none⟩ = some (.int .i64 L[k].f) ∧ w.cell? ⟨b, off + k * 2 + 1, none⟩ = some (.int .i64 L[k].r) := ⟨h k hk 0 (by omega), h k hk 1 (by omega)⟩
theorem gaV_one : ∀ g, ∀ u ∈ gaV g, u.oneCell' = true := by
  intro g u hu; simp [gaV] at hu; rcases hu with rfl | rfl <;> rfl
theorem leV_one : ∀ g, ∀ u ∈ leV g, u.oneCell' = true := by
  intro g u hu; simp [leV] at hu; rcases hu with rfl | rfl | rfl <;> rfl
theorem oxV_one : ∀ g, ∀ u ∈ oxV g, u.oneCell' = true := by
  intro g u hu; simp [oxV] at hu; rcases hu with rfl | rfl <;> rfl
/-- Where the elements of a slice that is not empty lie. -/
theorem SlRows.at' {α : Type} {f : α → List Value} {n : Nat} {w : World} {A : Option Addr} {L : List α} (h : SlRows f n w A L) {k : Nat} (hk : k < L.length) : ∃ b o, A = some ⟨b, o, none⟩ ∧ b < w.heap.size ∧ RowsAt f n w b o L := by
  rcases h with h | h
  · rw [h] at hk; simp at hk
  · exact h
/-- The first error of a list. -/
def fstI {α : Type} (f : α → Int) : List α → Int
  | [] => 0
  | x :: l => if f x = 0 then fstI f l else f x
theorem fstI_stop {α : Type} {f : α → Int} : ∀ {L : List α} {k : Nat} (hk : k < L.length), (∀ j, (hj : j < k) → f (L[j]'(by omega)) = 0) → f L[k] ≠ 0 → fstI f L = f L[k]
  | [], k, hk, _, _ => absurd hk (by simp)
  | x :: l, 0, _, _, h => by
    show (if f x = 0 then _ else f x) = f x
    exact if_neg h
  | x :: l, k + 1, hk, h0, h => by
    have this : f x = 0 := h0 0 (by omega)
    show (if f x = 0 then fstI f l else f x) = f (l[k]'(by simpa using hk))
    rw [if_pos this]
    exact fstI_stop (by simpa using hk) (fun j hj => h0 (j + 1) (by omega)) h
theorem fstI_all {α : Type} {f : α → Int} : ∀ {L : List α}, (∀ j, (hj : j < L.length) → f L[j] = 0) → fstI f L = 0
  | [], _ => rfl
  | x :: l, h => by
    have this : f x = 0 := h 0 (by simp)
    show (if f x = 0 then fstI f l else f x) = 0
    rw [if_pos this]
    exact fstI_all fun j hj => h (j + 1) (by simpa using hj)
theorem fstI_ok {α : Type} {f : α → Int} : ∀ {L : List α}, fstI f L = 0 → ∀ x ∈ L, f x = 0
  | [], _, x, hx => absurd hx (by simp)
  | y :: l, h, x, hx => by
    unfold fstI at h
    by_cases e : f y = 0
    · rw [if_pos e] at h
      rcases List.mem_cons.1 hx with rfl | hx
      · exact e
      · exact fstI_ok h x hx
    · rw [if_neg e] at h; exact absurd h e
end Go.Proofs.YtijdphlejokijaaGreat

namespace Go.Proofs.YtijdphlejokijaaGreat
open Go.ChangeShapes Go.WideShapes Go.ChangeAt Go.RowKit
set_option linter.unusedVariables false
set_option linter.unusedSimpArgs false

theorem cWithin_any (n a b : Int) (w : World) :
    Calls Tryz.prog 84 #[.int .i64 n, .int .i64 a, .int .i64 b] w fun e w' => e = .returned (.bool (inB n a b)) ∧ w = w' := by
  by_cases h1 : a ≤ n
  · by_cases h2 : n ≤ b
    · have h3 := inB_true h1 h2
      go_enter Tryz.func84, Tryz.ntmps84
      go_wp2
      go_ret
      exact ⟨by first | rfl | exact ret_bool h3.symm, rfl⟩
    · have h3 := inB_f2 (a := a) h2
      go_enter Tryz.func84, Tryz.ntmps84
      go_wp2
      go_ret
      exact ⟨by first | rfl | exact ret_bool h3.symm, rfl⟩
  · have h3 := inB_f1 (b := b) h1
    go_enter Tryz.func84, Tryz.ntmps84
    go_wp2
    go_ret
    exact ⟨by first | rfl | exact ret_bool h3.symm, rfl⟩
theorem cRange_any (n a b : Int) (w : World) :
    Calls Tryz.prog 58 #[.int .i64 n, .int .i64 a, .int .i64 b] w fun e w' => e = .returned (.int .i64 (rngE n a b)) ∧ w = w' := by
  rcases inB_cases n a b with h | h
  · have h3 := rngE_t h
    go_enter Tryz.func58, Tryz.ntmps58
    go_wp2_with (go_at_call 84; refine (cWithin_any _ _ _ _).mono ?_; rintro e w' ⟨rfl, rfl⟩)
    go_ret
    exact ⟨by first | rfl | exact ret_int h3.symm, rfl⟩
  · have h3 := rngE_f h
    go_enter Tryz.func58, Tryz.ntmps58
    go_wp2_with (go_at_call 84; refine (cWithin_any _ _ _ _).mono ?_; rintro e w' ⟨rfl, rfl⟩)
    go_ret
    exact ⟨by first | rfl | exact ret_int h3.symm, rfl⟩
theorem cFirst_any (l : List Int) (b off : Nat) (w : World) (hl : l.length ≤ 1000) (h0 : 0 < l.length)
    (hc : ∀ k, k < l.length → w.cell? ⟨b, off + k, none⟩ = some (.int .i64 (l.getD k 0))) :
    Calls Tryz.prog 31 #[.slice (some ⟨b, off, none⟩) l.length l.length] w fun e w' => e = .returned (.int .i64 (firE l)) ∧ w = w' := by
  have HC := Lib.hid hc
  clear hc
  go_enter Tryz.func31, Tryz.ntmps31
  go_wp2
  go_loop [7] (fun i => ∃ k : Nat, k ≤ l.length ∧ i = .int .i64 k ∧ Hid (∀ j, j < k → l.getD j 0 = 0)) (fun i => l.length - (intOf i).toNat)
  case atStart => exact ⟨0, by omega, rfl, fun j hj => by omega⟩
  case round =>
    obtain ⟨k, hk, rfl, hz⟩ := hrel
    by_cases hlt : k < l.length
    · have hcell := HC.out k hlt
      by_cases hn : l.getD k 0 = 0
      · rw [hn] at hcell
        go_wp2
        go_round
        case rel => exact ⟨k + 1, by omega, by go_num, fun j hj => by
          by_cases e : j = k
          · rw [e]; exact hn
          · exact hz.out j (by omega)⟩
        case measure => simp [intOf]; omega
      · have hr := firE_at hlt hz.out hn
        have hb : (l.getD k 0 != 0) = true := by simp; simpa using hn
        generalize hg : l.getD k 0 = x at *
        clear hg
        go_wp2
        go_ret
        exact ⟨by first | rfl | exact ret_int hr.symm, rfl⟩
    · have hkk : k = l.length := by omega
      have hr : firE l = 0 := firE_z (fun x hx => by
        obtain ⟨j, hj, rfl⟩ := List.getElem_of_mem hx
        have := hz.out j (by omega)
        simpa [hj] using this)
      clear hk
      go_wp2
      go_ret
      exact ⟨by first | rfl | exact ret_int hr.symm, rfl⟩
end Go.Proofs.YtijdphlejokijaaGreat
