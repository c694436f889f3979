import Derived.Test.YtchfhhmmjioajaaZRTClone
import Derived.Test.YtchfhhmmjioajaaZRMLimits
import Derived.Test.YtchfhhmmjioajaaZRMSmall
import Derived.Test.YtchfhhmmjioajaaZRMRefRoots
import Derived.Maps.AppendAt
import Derived.Laws.AppendOwnNone
import Derived.OwnWalk
import Derived.Outline
import Derived.LoopN
import Derived.Deep.DrawnRows
import Derived.Deep.CutRange
import Derived.Deep.CutBlock
/- Gases, legs of plans and legs as lists in memory; the copies that CopyGases and CopyLegs return. -/
namespace Go.Proofs.Ytchfhhmmjioajaa
open Go.ChangeShapes Go.WideShapes Go.ChangeAt Go.RowKit
set_option linter.unusedVariables false
set_option linter.unusedSimpArgs false

/-- A gas: oxygen, helium. -/
structure Gp where
  o : Int
  h : Int
instance : Inhabited Gp := ⟨⟨0, 0⟩⟩
def GpAt (w : World) (b off : Nat) (L : List Gp) : Prop :=
  ∀ k, (hk : k < L.length) → w.cell? ⟨b, off + k * 2, none⟩ = some (.int .i64 (L[k]).o) ∧ w.cell? ⟨b, off + k * 2 + 1, none⟩ = some (.int .i64 (L[k]).h)
theorem GpAt.below {w w' : World} {b off : Nat} {L : List Gp} (h : GpAt w b off L) {n : Nat} (hb : Below n w w') (hlt : b < n) : GpAt w' b off L := by
  intro k hk
  obtain ⟨h0, h1⟩ := h k hk
  have hc : ∀ o, w'.cell? ⟨b, o, none⟩ = w.cell? ⟨b, o, none⟩ := fun o => hb.cell (p := ⟨b, o, none⟩) hlt
  exact ⟨by rw [hc]; exact h0, by rw [hc]; exact h1⟩
def SlGp (w : World) (A : Option Addr) (L : List Gp) : Prop := L = [] ∨ ∃ b off, A = some ⟨b, off, none⟩ ∧ b < w.heap.size ∧ GpAt w b off L
theorem SlGp.below {w w' : World} {A : Option Addr} {L : List Gp} (h : SlGp w A L) (hb : Below w.heap.size w w') : SlGp w' A L := by
  rcases h with h | ⟨b, off, rfl, hlt, h⟩
  · exact Or.inl h
  · exact Or.inr ⟨b, off, rfl, Nat.lt_of_lt_of_le hlt hb.size, h.below hb hlt⟩
theorem SlGp.any {w w' : World} {A : Option Addr} {L : List Gp} {n : Nat} (h : SlGp w A L) (hb : Below n w w') (hn : w.heap.size ≤ n) : SlGp w' A L := h.below (hb.mono hn)
/-- A leg of a plan: seconds, depth, the number of its gas. -/
structure Dl where
  s : Int
  d : Int
  g : Int
instance : Inhabited Dl := ⟨⟨0, 0, 0⟩⟩
def DlAt (w : World) (b off : Nat) (L : List Dl) : Prop :=
  ∀ k, (hk : k < L.length) → w.cell? ⟨b, off + k * 3, none⟩ = some (.int .i64 (L[k]).s) ∧ w.cell? ⟨b, off + k * 3 + 1, none⟩ = some (.int .i64 (L[k]).d) ∧ w.cell? ⟨b, off + k * 3 + 2, none⟩ = some (.int .i64 (L[k]).g)
theorem DlAt.below {w w' : World} {b off : Nat} {L : List Dl} (h : DlAt w b off L) {n : Nat} (hb : Below n w w') (hlt : b < n) : DlAt w' b off L := by
  intro k hk
  obtain ⟨h0, h1, h2⟩ := h k hk
  have hc : ∀ o, w'.cell? ⟨b, o, none⟩ = w.cell? ⟨b, o, none⟩ := fun o => hb.cell (p := ⟨b, o, none⟩) hlt
  exact ⟨by rw [hc]; exact h0, by rw [hc]; exact h1, by rw [hc]; exact h2⟩
def SlDl (w : World) (A : Option Addr) (L : List Dl) : Prop := L = [] ∨ ∃ b off, A = some ⟨b, off, none⟩ ∧ b < w.heap.size ∧ DlAt w b off L
theorem SlDl.below {w w' : World} {A : Option Addr} {L : List Dl} (h : SlDl w A L) (hb : Below w.heap.size w w') : SlDl w' A L := by
  rcases h with h | ⟨b, off, rfl, hlt, h⟩
  · exact Or.inl h
  · exact Or.inr ⟨b, off, rfl, Nat.lt_of_lt_of_le hlt hb.size, h.below hb hlt⟩
theorem SlDl.any {w w' : World} {A : Option Addr} {L : List Dl} {n : Nat} (h : SlDl w A L) (hb : Below n w w') (hn : w.heap.size ≤ n) : SlDl w' A L := h.below (hb.mono hn)
/-- A leg: from, to, seconds, oxygen, helium. -/
structure Tl where
  f : Int
  t : Int
  s : Int
  o : Int
  h : Int
instance : Inhabited Tl := ⟨⟨0, 0, 0, 0, 0⟩⟩
def TlAt (w : World) (b off : Nat) (L : List Tl) : Prop :=
  ∀ k, (hk : k < L.length) → w.cell? ⟨b, off + k * 5, none⟩ = some (.int .i64 (L[k]).f) ∧ w.cell? ⟨b, off + k * 5 + 1, none⟩ = some (.int .i64 (L[k]).t) ∧ w.cell? ⟨b, off + k * 5 + 2, none⟩ = some (.int .i64 (L[k]).s) ∧ w.cell? ⟨b, off + k * 5 + 3, none⟩ = some (.int .i64 (L[k]).o) ∧ w.cell? ⟨b, off + k * 5 + 4, none⟩ = some (.int .i64 (L[k]).h)
theorem TlAt.below {w w' : World} {b off : Nat} {L : List Tl} (h : TlAt w b off L) {n : Nat} (hb : Below n w w') (hlt : b < n) : TlAt w' b off L := by
  intro k hk
  obtain ⟨h0, h1, h2, h3, h4⟩ := h k hk
  have hc : ∀ o, w'.cell? ⟨b, o, none⟩ = w.cell? ⟨b, o, none⟩ := fun o => hb.cell (p := ⟨b, o, none⟩) hlt
  exact ⟨by rw [hc]; exact h0, by rw [hc]; exact h1, by rw [hc]; exact h2, by rw [hc]; exact h3, by rw [hc]; exact h4⟩
def SlTl (w : World) (A : Option Addr) (L : List Tl) : Prop := L = [] ∨ ∃ b off, A = some ⟨b, off, none⟩ ∧ b < w.heap.size ∧ TlAt w b off L
theorem SlTl.below {w w' : World} {A : Option Addr} {L : List Tl} (h : SlTl w A L) (hb : Below w.heap.size w w') : SlTl w' A L := by
  rcases h with h | ⟨b, off, rfl, hlt, h⟩
  · exact Or.inl h
  · exact Or.inr ⟨b, off, rfl, Nat.lt_of_lt_of_le hlt hb.size, h.below hb hlt⟩
theorem SlTl.any {w w' : World} {A : Option Addr} {L : List Tl} {n : Nat} (h : SlTl w A L) (hb : Below n w w') (hn : w.heap.size ≤ n) : SlTl w' A L := h.below (hb.mono hn)
end Go.Proofs.Ytchfhhmmjioajaa

/- What gas.PressureAt, gas.Partial and their specifications return. -/
namespace Go.Proofs.Ytchfhhmmjioajaa
open Go.ChangeShapes Go.WideShapes Go.ChangeAt Go.RowKit
set_option linter.unusedVariables false

end Go.Proofs.Ytchfhhmmjioajaa

/- What tissue.checkPlan, tissue.checkDiveLeg and the specification's checks of a plan return. -/
namespace Go.Proofs.Ytchfhhmmjioajaa
open Go.ChangeShapes Go.WideShapes Go.ChangeAt Go.RowKit
set_option linter.unusedVariables false
set_option linter.unusedSimpArgs false
theorem refIsSurface_any (n : Int) (w : World) :
    Calls Try.prog 44 #[.int .i64 n] w fun e w' => e = .returned (.bool (inB n 400 1100)) ∧ w = w' := by
  go_enter Try.func44, Try.ntmps44
  go_wp2_with ((go_at_call 18; ((with_reducible refine (baseWithin_any _ _ _ _).mono ?_)); rintro e w' ⟨rfl, rfl⟩))
  go_ret
  exact ⟨rfl, rfl⟩
end Go.Proofs.Ytchfhhmmjioajaa

/- What tissue.LegsOf returns. -/
namespace Go.Proofs.Ytchfhhmmjioajaa
open Go.ChangeShapes Go.WideShapes Go.ChangeAt Go.RowKit
set_option linter.unusedVariables false
set_option linter.unusedSimpArgs false
attribute [local go_sem ↓] Go.wp_at_zero Go.wp_at_succ
theorem oper_append_own_at {P : Program} {w : World} {o : Oper} {a : Act} {K : Act → World → Prop} {Q : Exit → Act → World → Prop} (s x : Operand) (t : TypeId)
    (ho : o.op = .call { callee := .builtin .append, args := #[s, x], argTypes := #[t, t] })
    (base : Nat) (e : TypeId) (i : TypeInfo) (z : Value) (size bytes : Nat) (ht : P.underlying t = some (.slice e)) (hi : P.info? e = some i) (hz : i.zero = some z)
    (hsize : i.size = size) (hby : i.bytes = bytes) (hzs : z.cells.size = size) (hsz : 0 < size)
    (v : Value) (n : Nat) (xs : List Value) (hs : a.eval s = v) (hown : w.ownsRow base e size v n xs)
    (ad : Addr) (m c : Nat) (news : List Value) (hx : a.eval x = .slice (some ad) m c) (hl : news.length = m * size) (hnews : ∀ j u, news[j]? = some u → w.cell? (ad.add j) = some u) (h1 : ∀ u ∈ news, u.oneCell' = true)
    (h63 : n + m ≤ maxLen) (hbytes : (n + m) * bytes ≤ 140737488355328) (hbase : base ≤ w.heap.size)
    (h : ∀ v' w', w'.ownsRow base e size v' (n + m) (xs ++ news) → w.grownBy w' v.ownBlock → K (a.put o.dst v') w') : o.wp P a w K Q := by
  obtain ⟨v', w', hr, h2, h3, _, _⟩ := run_append_own_at (P := P) w base t o.type e i z size bytes ht hi hz hsize hby hzs hsz v n xs hown ad m c news hl hnews h1 h63 hbytes hbase
  unfold Oper.wp execOp
  simp only [ho, resolve, invoke, builtin, Sem.run_bind, Sem.run_pure, Result.andThen_ok, List.map_toArray, List.map_cons, List.map_nil, hs, hx, hr]
  exact h v' w' h2 h3
end Go.Proofs.Ytchfhhmmjioajaa
