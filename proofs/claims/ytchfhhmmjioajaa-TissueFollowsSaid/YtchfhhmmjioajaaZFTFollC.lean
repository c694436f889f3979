import Derived.Test.YtchfhhmmjioajaaZFTFollG
import Derived.Test.YtchfhhmmjioajaaZFMPlans
import Derived.Laws.AppendOwnNone
import Derived.Outline
namespace Go.Proofs.Ytchfhhmmjioajaa
open Go.ChangeShapes Go.WideShapes Go.ChangeAt Go.RowKit
set_option linter.unusedVariables false
set_option linter.unusedSimpArgs false
/-- An append of a slice, nil or not, to a row of the call's own. -/
theorem oper_append_slice {P : Program} {w : World} {o : Oper} {a : Act} {K : Act → World → Prop} {Q : Exit → Act → World → Prop} (s x : Operand) (t : TypeId)
    (ho : o.op = .call { callee := .builtin .append, args := #[s, x], argTypes := #[t, t] })
    (base : Nat) (e : TypeId) (i : TypeInfo) (z : Value) (size bytes : Nat) (ht : P.underlying t = some (.slice e)) (hi : P.info? e = some i) (hz : i.zero = some z)
    (hsize : i.size = size) (hby : i.bytes = bytes) (hzs : z.cells.size = size) (hsz : 0 < size)
    (v : Value) (n : Nat) (xs : List Value) (hs : a.eval s = v) (hown : w.ownsRow base e size v n xs)
    (C : Option Addr) (m c : Nat) (news : List Value) (hx : a.eval x = .slice C m c) (hC : C = none → m = 0 ∧ c = 0) (hl : news.length = m * size) (hnews : ∀ ad, C = some ad → ∀ j u, news[j]? = some u → w.cell? (ad.add j) = some u) (h1 : ∀ u ∈ news, u.oneCell' = true)
    (h63 : n + m ≤ maxLen) (hbytes : (n + m) * bytes ≤ 140737488355328) (hbase : base ≤ w.heap.size)
    (h : ∀ v' w', w'.ownsRow base e size v' (n + m) (xs ++ news) → w.grownBy w' v.ownBlock → K (a.put o.dst v') w') : o.wp P a w K Q := by
  cases C with
  | some ad => exact oper_append_own_at s x t ho base e i z size bytes ht hi hz hsize hby hzs hsz v n xs hs hown ad m c news hx hl (hnews ad rfl) h1 h63 hbytes hbase h
  | none =>
    obtain ⟨rfl, rfl⟩ := hC rfl
    have hnw : news = [] := List.eq_nil_of_length_eq_zero (by rw [hl, Nat.zero_mul])
    subst hnw
    have hrun := run_append_owned_none (P := P) (w := w) base t o.type e i size ht hi v n xs hown
    unfold Oper.wp
    simp [execOp, ho, resolve, invoke, builtin, hs, hx, hrun, Result.andThen]
    exact h v w (by simpa using hown) (World.grownBy.refl _ _)
theorem SlCm.grown {V V' : World} {A : Option Addr} {T : List Cm} {bz : Nat} {e : TypeId} {fz : Nat × Nat} (h : SlCm V A T) (hz : V.heap[bz]? = some (.cells #[] e fz)) (hg : V.grownBy V' (some bz)) : SlCm V' A T := by
  rcases h with h | ⟨b, off, rfl, hlt, h⟩
  · exact Or.inl h
  by_cases ht : T = []
  · exact Or.inl ht
  have hl : 0 < T.length := List.length_pos_iff.2 ht
  have hne : b ≠ bz := by
    intro e; subst e
    have := (h 0 hl).1
    unfold World.cell? at this
    simp [hz] at this
  exact Or.inr ⟨b, off, rfl, Nat.lt_of_lt_of_le hlt hg.size, h.blk (hg.block b hlt (by intro e; injection e; omega))⟩
theorem SlLd.grown {V V' : World} {A : Option Addr} {T : List Ld} {bz : Nat} {e : TypeId} {fz : Nat × Nat} (h : SlLd V A T) (hz : V.heap[bz]? = some (.cells #[] e fz)) (hg : V.grownBy V' (some bz)) : SlLd V' A T := by
  rcases h with h | ⟨b, off, rfl, hlt, h⟩
  · exact Or.inl h
  by_cases ht : T = []
  · exact Or.inl ht
  have hl : 0 < T.length := List.length_pos_iff.2 ht
  have hne : b ≠ bz := by
    intro e; subst e
    have := (h 0 hl).1
    unfold World.cell? at this
    simp [hz] at this
  exact Or.inr ⟨b, off, rfl, Nat.lt_of_lt_of_le hlt hg.size, h.blk (hg.block b hlt (by intro e; injection e; omega))⟩
theorem own_empty {V : World} {base bz : Nat} {e : TypeId} (hb : base ≤ bz) (hz : V.heap[bz]? = some (.cells #[] e (0, 0))) : V.ownsRow base e 5 (.slice (some ⟨bz, 0, none⟩) 0 0) 0 [] :=
  ⟨by simp, .inr ⟨bz, 0, #[], rfl, hb, hz, Nat.zero_le _, by unfold maxLen; omega, by simp, by simp⟩⟩
/-- What a row of slices holds. -/
theorem rowS {n m : Nat} {V : World} {base : Nat} {e : TypeId} {v : Value} {xs : List Value} {F : Nat → List Ld} (ho : V.ownsRow base e 1 v m xs) (hs : SlS n V xs F v.ownBlock) : ∃ A cap, v = .slice A m cap ∧ ∀ k, k < m → ∃ g q qf qc, A = some ⟨g, 0, none⟩ ∧ g < V.heap.size ∧ V.cell? ⟨g, k, none⟩ = some (.slice (some ⟨q, qf, none⟩) n qc) ∧ q < V.heap.size ∧ LdAt V q qf (F (k + 1)) := by
  have hlen := ho.1
  rcases ho.2 with ⟨rfl, h0⟩ | ⟨g, cap, cur, rfl, hb, hg, hle, hcap, hsz, ht⟩
  · exact ⟨none, 0, by rw [h0], fun k hk => by omega⟩
  · refine ⟨some ⟨g, 0, none⟩, cap, rfl, fun k hk => ?_⟩
    obtain ⟨q, qf, qc, h1, h2, _, h4⟩ := hs k (by omega)
    have c := World.ownsRow.cells ho (g := g) rfl _ _ h1
    rw [addN4, Nat.zero_add] at c
    exact ⟨g, q, qf, qc, rfl, (Array.getElem?_eq_some_iff.1 hg).1, c, h2, h4⟩
theorem lawLoads_n (P : List Ld) (m : Nat) (A : Option Addr) (cap : Nat) (w : World) (hm : P.length = m) (hl : m ≤ 1000000) (hc : A = none → cap = 0) (hS : SlLd w A P) :
    Calls Try.prog 24 #[.slice A m cap] w fun e w' => ∃ A' cap', e = .returned (.slice A' m cap') ∧ SlLd w' A' P ∧ Below w.heap.size w w' := by
  subst hm
  refine (lawLoads_any P A cap w hl hc hS).mono ?_
  rintro e w' ⟨A', cap', rfl, h1, _, h2⟩
  exact ⟨A', cap', rfl, h1, h2⟩
end Go.Proofs.Ytchfhhmmjioajaa
