import Derived.Test.YtjkhjjmmkdfjmaaMCFRoom3
import Derived.Maps.AppendAt
import Derived.Outline
namespace Go.Proofs.Ytjkhjjmmkdfjmaa
open Go.ChangeShapes Go.WideShapes Go.ChangeAt Go.RowKit
set_option linter.unusedVariables false
set_option linter.unusedSimpArgs false
attribute [local go_sem ↓] Go.wp_at_zero Go.wp_at_succ
theorem info_partsF {a : Option TypeInfo} {z : Option Value} {s b : Nat} (h : a.map (fun i => (i.zero, i.size, i.bytes)) = some (z, s, b)) : ∃ i, a = some i ∧ i.zero = z ∧ i.size = s ∧ i.bytes = b := by
  cases a with
  | none => simp at h
  | some i =>
    have h2 : (i.zero, i.size, i.bytes) = (z, s, b) := by simpa using h
    exact ⟨i, rfl, congrArg (·.1) h2, congrArg (·.2.1) h2, congrArg (·.2.2) h2⟩
theorem own_blockF {w : World} {base : Nat} {e : TypeId} {s n : Nat} {v : Value} {xs : List Value} (h : w.ownsRow base e s v n xs) : ∀ k, v.ownBlock = some k → base ≤ k := by
  intro k hk
  rcases h.2 with ⟨rfl, _⟩ | ⟨g, cap, cur, rfl, hb, _⟩
  · simp [Value.ownBlock] at hk
  · simp [Value.ownBlock] at hk; omega
theorem own_openF {w : World} {base : Nat} {e : TypeId} {s n : Nat} {v : Value} {xs : List Value} (h : w.ownsRow base e s v (n + 1) xs) : ∃ g cap, v = .slice (some ⟨g, 0, none⟩) (n + 1) cap ∧ base ≤ g ∧ g < w.heap.size ∧ (∀ j u, xs[j]? = some u → w.cell? ⟨g, j, none⟩ = some u) ∧ (∀ j, w.frozen? ⟨g, j, none⟩ = false) := by
  rcases h.2 with ⟨_, h0⟩ | ⟨g, cap, cur, rfl, hb, hg, hle, hmx, _⟩
  · omega
  · refine ⟨g, cap, rfl, hb, (Array.getElem?_eq_some_iff.1 hg).1, fun k u hk => ?_, fun j => ?_⟩
    · have c := World.ownsRow.cells h (g := g) rfl k u hk
      unfold Addr.add at c
      split at c
      · rename_i hz; subst hz; exact c
      · simpa using c
    · simp [World.frozen?, hg]
theorem infoHeld : (Try.prog.info? 131).map (fun i => (i.zero, i.size, i.bytes)) = some (some (.agg #[.string ⟨#[]⟩, .int .i64 0, .int .i64 0, .int .i64 0, .int .i64 0, .int .i64 0]), 6, 56) := by kernel_rfl
theorem ownsRowF_setCell_below {w : World} {base : Nat} {e : TypeId} {s n : Nat} {v : Value} {xs : List Value} (h : w.ownsRow base e s v n xs) {a : Addr} (ha : a.block < base) (u : Value) : (w.setCell a u).ownsRow base e s v n xs := by
  refine ⟨h.1, ?_⟩
  rcases h.2 with hn | ⟨g, cap, cur, rfl, hb, hg, hrest⟩
  · exact .inl hn
  · exact .inr ⟨g, cap, cur, rfl, hb, (Below.heap_setCell _ _ _ _ (by omega)).trans hg, hrest⟩
/-- The room behind the fills of the example. -/
def BehindEx (w : World) (e : Ending) (w' : World) : Prop := ∃ vb cap, e = .returned (.tuple #[.agg #[.slice (some ⟨vb, 0, none⟩) 2 cap, .int .i64 2100000, .int .i64 0, .int .i64 7900000, .int .i64 0, .int .i64 0, .int .i64 0, .int .i64 1], .int .i64 0, .int .i64 0]) ∧ w.heap.size ≤ vb ∧ vb < w'.heap.size ∧ (w'.cell? ⟨vb, 0, none⟩ = some (.string ⟨#[98, 97, 110, 107]⟩) ∧ w'.cell? ⟨vb, 1, none⟩ = some (.int .i64 50000) ∧ w'.cell? ⟨vb, 2, none⟩ = some (.int .i64 300000) ∧ w'.cell? ⟨vb, 3, none⟩ = some (.int .i64 1701000) ∧ w'.cell? ⟨vb, 4, none⟩ = some (.int .i64 0) ∧ w'.cell? ⟨vb, 5, none⟩ = some (.int .i64 6399000) ∧ w'.cell? ⟨vb, 6, none⟩ = some (.string ⟨#[115, 49, 50]⟩) ∧ w'.cell? ⟨vb, 7, none⟩ = some (.int .i64 12000) ∧ w'.cell? ⟨vb, 8, none⟩ = some (.int .i64 232000) ∧ w'.cell? ⟨vb, 9, none⟩ = some (.int .i64 399000) ∧ w'.cell? ⟨vb, 10, none⟩ = some (.int .i64 0) ∧ w'.cell? ⟨vb, 11, none⟩ = some (.int .i64 1501000)) ∧ Below w.heap.size w w'
end Go.Proofs.Ytjkhjjmmkdfjmaa
