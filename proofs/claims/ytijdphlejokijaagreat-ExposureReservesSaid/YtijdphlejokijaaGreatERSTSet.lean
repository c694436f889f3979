import Derived.Test.YtijdphlejokijaaGreatERSENp
import Derived.Test.YtijdphlejokijaaGreatERSENeedA
import Derived.Test.YtijdphlejokijaaGreatERSECta
import Derived.Outline
import Derived.Test.YtijdphlejokijaaGreatERSLeaf
namespace Go.Proofs.YtijdphlejokijaaGreat
open Go.Shelf Go.ChangeShapes Go.WideShapes Go.ChangeAt Go.RowKit
set_option linter.unusedVariables false
set_option linter.unusedSimpArgs false
attribute [local go_sem ↓] Go.wp_at_zero Go.wp_at_succ
attribute [local go_sem] Oper.semAt_some
theorem gaV_len : ∀ g, (gaV g).length = 2 := fun _ => rfl
theorem leV_len : ∀ g, (leV g).length = 3 := fun _ => rfl
theorem ptV_len : ∀ g, (ptV g).length = 2 := fun _ => rfl
theorem bsO_cells {α : Type} {f : α → List Value} {n : Nat} {X : World} {A : Option Addr} {L : List α} (hf : ∀ g, (f g).length = n + 1) (h : SlRows f (n + 1) X A L) : ∀ b ∈ bsO A L, ∃ o, X.heap[b]? = some o ∧ o.isCells = true := by
  intro b hb
  rcases h with rfl | ⟨c, off, rfl, hl, hR⟩
  · cases A <;> simp [bsO] at hb
  · cases L with
    | nil => simp [bsO] at hb
    | cons x l =>
      simp [bsO] at hb
      subst hb
      have h0 := hR 0 (by simp) 0 (by omega)
      have hx : 0 < (f ((x :: l)[0])).length := by rw [hf]; omega
      obtain ⟨v, hv⟩ : ∃ v, (f ((x :: l)[0]))[0]? = some v := ⟨_, List.getElem?_eq_getElem hx⟩
      rw [hv] at h0
      exact cells_of h0
theorem needs_posF (n : Nat) (hn : 5 ≤ n) (bs : List Nat) (fb sb rb : Nat) (nm : ByteArray) (s : Int) (G : List Ga) (D : List Le) (A B P : Option Addr) (gn gc dn dc pc : Nat) (E9 : Int) (T : List Ox) (r : Ru) (AT : Option Addr) (tn tc : Nat) (t : Int) (xs : List Nat) (w : World) (gF : Nat → Nat) (vF sF : Nat → Int) (hF : Hid (∀ i : Nat, gF i = ndG s G D (t + (i : Int)) ∧ vF i = ndV r s G D (t + (i : Int)) ∧ sF i = t + (i : Int))) (hgn : Hid (gn = G.length)) (hdn : Hid (dn = D.length)) (hok : Hid (PlnOk nm s G D)) (hru : Hid (RuOk T r)) (hshort : Hid (∀ k, (legC s G D k).s ≤ 20000))
    (hM : FolM bs fb nm s G D A B P gn gc dn dc pc E9 w) (hbsw : ∀ b ∈ bs, b < w.heap.size) (hbsc : ∀ b ∈ bs, b ∉ xs ∧ ∃ o, w.heap[b]? = some o ∧ o.isCells = true) (hxs : ∀ b ∈ xs, b < w.heap.size) (hrx : rb ∉ xs) (hSb : BlkF w 0 sb [.int .i64 t]) (hRb : BlkF w 0 rb [.slice AT tn tc, .int .i64 r.a, .int .i64 r.b, .int .i64 r.nc, .int .i64 r.dn, .int .i64 r.br, .int .i64 r.em, .int .i64 r.pa, .int .i64 r.sc]) (t0 : 0 ≤ t) (t1 : Hid (t ≤ secT D D.length)) (hS9 : Hid (secT D D.length ≤ 20000)) :
    SeqP (n - 1 - 1 - 1) n Tryz.prog 59 #[.pointer (some ⟨sb, 0, none⟩), .pointer (some ⟨fb, 0, none⟩), .pointer (some ⟨rb, 0, none⟩)] (fun i => #[.int .i64 (gF i : Int), .agg #[.int .i64 (vF i), .int .i64 (sF i)]]) (KeepX xs) (ndN D t) w := by
  have e : (fun i : Nat => #[Value.int .i64 (gF i : Int), .agg #[.int .i64 (vF i), .int .i64 (sF i)]]) = (fun i : Nat => #[.int .i64 (ndG s G D (t + (i : Int)) : Int), .agg #[.int .i64 (ndV r s G D (t + (i : Int))), .int .i64 (t + (i : Int))]]) := funext fun i => by
    obtain ⟨h1, h2, h3⟩ := hF.out i
    rw [h1, h2, h3]
  rw [e]
  exact needs_pos n hn bs fb sb rb nm s G D A B P gn gc dn dc pc E9 T r AT tn tc t xs w hgn hdn hok hru hshort hM hbsw hbsc hxs hrx hSb hRb t0 t1 hS9
end Go.Proofs.YtijdphlejokijaaGreat

namespace Go.Proofs.YtijdphlejokijaaGreat
open Go.ChangeShapes Go.WideShapes Go.ChangeAt Go.RowKit
set_option linter.unusedVariables false
set_option linter.unusedSimpArgs false
theorem cell_same {w : World} {b i : Nat} {u v : Value} (h : w.cell? ⟨b, i, none⟩ = some v) : (w.setCell ⟨b, i, none⟩ u).cell? ⟨b, i, none⟩ = some u := World.cell?_setCell_same' _ _ _ (by rw [h]; rfl)
theorem cell_off {w : World} {b i c j : Nat} {u : Value} (h : c ≠ b ∨ j ≠ i) : (w.setCell ⟨b, i, none⟩ u).cell? ⟨c, j, none⟩ = w.cell? ⟨c, j, none⟩ := by
  have h1 : (b = c → i ≠ j) := by
    intro e e2
    rcases h with h | h
    · exact h e.symm
    · exact h e2.symm
  by_cases hb : b = c
  · subst hb
    have := h1 rfl
    simp [go_sem, this]
  · simp [go_sem, hb]
theorem size_set (w : World) (a : Addr) (u : Value) : (w.setCell a u).heap.size = w.heap.size := by simp [World.setCell]
def set4 (X : World) (b : Nat) (u0 u1 u2 u3 : Value) : World := ((((X).setCell ⟨b, 0, none⟩ u0).setCell ⟨b, 1, none⟩ u1).setCell ⟨b, 2, none⟩ u2).setCell ⟨b, 3, none⟩ u3
theorem set4_is {X : World} {b : Nat} (u0 u1 u2 u3 : Value) (h : ∀ i, i < 4 → ∃ v, X.cell? ⟨b, i, none⟩ = some v) (hf : ∀ j, X.frozen? ⟨b, j, none⟩ = false) :
    (set4 X b u0 u1 u2 u3).cell? ⟨b, 0, none⟩ = some u0 ∧ (set4 X b u0 u1 u2 u3).cell? ⟨b, 1, none⟩ = some u1 ∧ (set4 X b u0 u1 u2 u3).cell? ⟨b, 2, none⟩ = some u2 ∧ (set4 X b u0 u1 u2 u3).cell? ⟨b, 3, none⟩ = some u3 ∧ (∀ j, (set4 X b u0 u1 u2 u3).frozen? ⟨b, j, none⟩ = false) ∧ (∀ c o, c ≠ b → (set4 X b u0 u1 u2 u3).cell? ⟨c, o, none⟩ = X.cell? ⟨c, o, none⟩) ∧ (∀ k, k ≠ b → (set4 X b u0 u1 u2 u3).heap[k]? = X.heap[k]?) ∧ (set4 X b u0 u1 u2 u3).heap.size = X.heap.size := by
  obtain ⟨v0, h0⟩ := h 0 (by omega)
  obtain ⟨v1, h1⟩ := h 1 (by omega)
  obtain ⟨v2, h2⟩ := h 2 (by omega)
  obtain ⟨v3, h3⟩ := h 3 (by omega)
  unfold set4
  refine ⟨?_, ?_, ?_, ?_, ?_, ?_, ?_, ?_⟩
  · rw [cell_off (Or.inr (by omega))]; rw [cell_off (Or.inr (by omega))]; rw [cell_off (Or.inr (by omega))]; exact cell_same h0
  · rw [cell_off (Or.inr (by omega))]; rw [cell_off (Or.inr (by omega))]; refine cell_same (v := v1) ?_; rw [cell_off (Or.inr (by omega))]; exact h1
  · rw [cell_off (Or.inr (by omega))]; refine cell_same (v := v2) ?_; rw [cell_off (Or.inr (by omega))]; rw [cell_off (Or.inr (by omega))]; exact h2
  · refine cell_same (v := v3) ?_; rw [cell_off (Or.inr (by omega))]; rw [cell_off (Or.inr (by omega))]; rw [cell_off (Or.inr (by omega))]; exact h3
  · intro j; simp only [World.frozen?_setCell]; exact hf j
  · intro c o hc; rw [cell_off (Or.inl hc)]; rw [cell_off (Or.inl hc)]; rw [cell_off (Or.inl hc)]; rw [cell_off (Or.inl hc)]
  · intro k hk; rw [Below.heap_setCell _ _ _ _ hk]; rw [Below.heap_setCell _ _ _ _ hk]; rw [Below.heap_setCell _ _ _ _ hk]; rw [Below.heap_setCell _ _ _ _ hk]
  · simp only [size_set]
theorem set4_below {a X : World} {N b : Nat} {u0 u1 u2 u3 : Value} (h : Below N a X) (hb : N ≤ b) : Below N a (set4 X b u0 u1 u2 u3) := ((((((((h).setCell (p := ⟨b, 0, none⟩) hb u0)).setCell (p := ⟨b, 1, none⟩) hb u1)).setCell (p := ⟨b, 2, none⟩) hb u2)).setCell (p := ⟨b, 3, none⟩) hb u3)
end Go.Proofs.YtijdphlejokijaaGreat
