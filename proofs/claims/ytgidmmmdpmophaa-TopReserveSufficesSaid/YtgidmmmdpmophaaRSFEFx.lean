import Derived.Test.YtgidmmmdpmophaaRSFELeg
import Derived.Test.YtgidmmmdpmophaaRSFERfC
import Derived.Outline
namespace Go.Proofs.Ytgidmmmdpmophaa
open Go.ChangeShapes Go.WideShapes Go.ChangeAt Go.RowKit
set_option linter.unusedVariables false
set_option linter.unusedSimpArgs false
attribute [local go_sem ↓] Go.wp_at_zero Go.wp_at_succ

/-- What is known of a plan that is followed. -/
def FolG (nm : ByteArray) (s : Int) (A : Option Addr) (gn gc : Nat) (B : Option Addr) (dn dc : Nat) (D : List Le) (E : Int) (a0 : ByteArray) (a1 : Int) (a2 : Option Addr) (n2 c2 : Nat) (a3 : Option Addr) (n3 c3 : Nat) (a4 : Option Addr) (n4 c4 : Nat) (a5 : Int) (X : World) : Prop :=
  E = 0 → (a0 = nm ∧ a1 = s ∧ a2 = A ∧ n2 = gn ∧ c2 = gc ∧ a3 = B ∧ n3 = dn ∧ c3 = dc ∧ n4 = dn + 1 ∧ a5 = secT D dn) ∧ SlRows ptV 2 X a4 (ptL D (dn + 1))
theorem FolG.below {nm : ByteArray} {s : Int} {A : Option Addr} {gn gc : Nat} {B : Option Addr} {dn dc : Nat} {D : List Le} {E : Int} {a0 : ByteArray} {a1 : Int} {a2 : Option Addr} {n2 c2 : Nat} {a3 : Option Addr} {n3 c3 : Nat} {a4 : Option Addr} {n4 c4 : Nat} {a5 : Int} {X Y : World} (h : FolG nm s A gn gc B dn dc D E a0 a1 a2 n2 c2 a3 n3 c3 a4 n4 c4 a5 X) (hb : Below X.heap.size X Y) : FolG nm s A gn gc B dn dc D E a0 a1 a2 n2 c2 a3 n3 c3 a4 n4 c4 a5 Y :=
  fun e => ⟨(h e).1, (h e).2.below hb⟩
theorem follow_x (nm : ByteArray) (s : Int) (G : List Ga) (D : List Le) (A B : Option Addr) (gn gc dn dc : Nat) (N : Nat) (E : Int) (w : World) (hz : nm.size ≤ 9223372036854775807) (hgn : Hid (gn = G.length)) (hgl : gn ≤ 9223372036854775807) (hdn : Hid (dn = D.length)) (hdl : dn ≤ 9223372036854775807) (hG : Hid (SlRows gaV 2 w A G)) (hD : Hid (SlRows leV 3 w B D)) (hE : Hid (plnP nm s G D = (N, E))) :
    Calls Try.prog 26 #[.agg #[.string nm, .int .i64 s, .slice A gn gc, .slice B dn dc]] w fun e w' => ∃ a0 a1 a2 n2 c2 a3 n3 c3 a4 n4 c4 a5, e = .returned (.tuple #[.agg #[.string a0, .int .i64 a1, .slice a2 n2 c2, .slice a3 n3 c3, .slice a4 n4 c4, .int .i64 a5], .int .i64 E]) ∧ n3 ≤ 9223372036854775807 ∧ n2 ≤ 9223372036854775807 ∧ FolG nm s A gn gc B dn dc D E a0 a1 a2 n2 c2 a3 n3 c3 a4 n4 c4 a5 w' ∧ Below w.heap.size w w' := by
  refine (follow_any nm s G D A B gn gc dn dc N E w hz hgn hgl hdn hdl hG hD hE).mono ?_
  rintro e x1 (⟨h0, rfl, hb⟩ | ⟨h0, P, pc, E9, rfl, hP, h9, hb⟩)
  · exact ⟨_, _, _, _, _, _, _, _, _, _, _, _, rfl, by omega, by omega, fun e => absurd e h0, hb⟩
  · exact ⟨_, _, _, _, _, _, _, _, _, _, _, _, by rw [h0], hdl, hgl, fun _ => ⟨⟨rfl, rfl, rfl, rfl, rfl, rfl, rfl, rfl, rfl, h9.symm⟩, hP⟩, hb⟩
theorem fir_x {a : Int} {l m : List Int} (h : a = 0 → l = m) : firE (a :: l) = firE (a :: m) := by
  unfold firE
  by_cases e : a = 0
  · rw [if_pos e, if_pos e, h e]
  · rw [if_neg e, if_neg e]
theorem BlkF.put {u : World} {B b : Nat} {vs : List Value} (h : BlkF u B b vs) {i : Nat} (v : Value) (hi : i < vs.length) : BlkF (u.setCell ⟨b, i, none⟩ v) B b (vs.set i v) := by
  refine ⟨h.ge, by simpa using h.lt, fun j x hx => ?_, fun j => by rw [World.frozen?_setCell]; exact h.fz j⟩
  by_cases e : i = j
  · subst e
    rw [List.getElem?_set_self hi] at hx
    injection hx with hx
    subst hx
    exact cell_sameB (h.at' i _ (List.getElem?_eq_getElem hi))
  · rw [List.getElem?_set_ne e] at hx
    rw [cell_offB e]
    exact h.at' j x hx
end Go.Proofs.Ytgidmmmdpmophaa
