import Derived.Test.YtojaompfffpofaaGreatZCSComb
import Derived.Test.YtojaompfffpofaaGreatShelf
import Derived.Sort.OwnSortedInts
import Derived.Outline
namespace Go.Proofs.YtojaompfffpofaaGreat
open Go.ChangeShapes Go.WideShapes Go.ChangeAt Go.RowKit
set_option linter.unusedVariables false
theorem intV_map (l : List Int) : rowsV intV l = l.map (Value.int .i64) := by
  induction l with
  | nil => rfl
  | cons x r ih => show [Value.int .i64 x] ++ rowsV intV r = _; rw [ih]; rfl
theorem sort_ok (base : Nat) : SortOK base := by
  intro zs A cap n v hn hl hown
  subst hn
  rw [intV_map] at hown
  rcases hown.2 with ⟨hA, h0⟩ | ⟨g, cap', cur, hA, hg, hh, hle, hcap, hs, ht⟩
  · injection hA with e1 e2 e3
    subst e1 e3
    have hz : zs = [] := List.eq_nil_of_length_eq_zero h0
    rw [h0]
    refine (Tryz.slices_Sort_int_none none 0 v).mono ?_
    rintro e v' ⟨rfl, rfl⟩
    exact ⟨rfl, Or.inl (by rw [hz]; simp [srt]), Below.refl _ _⟩
  · injection hA with e1 e2 e3
    subst e1 e3
    have hlt : g < v.heap.size := (Array.getElem?_eq_some_iff.1 hh).1
    rw [Nat.mul_one] at ht
    refine (Tryz.slices_Sort_int g 0 cap zs v (holds_of_blockI hh ht) hlt (by omega)).mono ?_
    rintro e v' ⟨rfl, k, os, rfl⟩
    refine ⟨rfl, ?_, (Below.refl base v).grown (grownBy_sortedI _) (by omega) (fun q hq => by injection hq with hq; omega)⟩
    have ho := ownsRow_sortedI (n := k) (os := os) (ts := srt zs) (srt_len zs) hg hh hle hcap hs
    rw [← intV_map] at ho
    have ho2 : (Go.Sort.grow (Go.Sort.putRow (Value.int .i64) (Go.Sort.ahead v k) g 0 (srt zs).toArray) os).ownsRow base 3 1 (.slice (some ⟨g, 0, none⟩) (srt zs).length cap) (srt zs).length (rowsV intV (srt zs)) := by
      have e : (srt zs).length = zs.length := srt_len zs
      rw [e]; exact ho
    obtain ⟨A2, cap2, hv, hS, _⟩ := SlRows_own (f := intV) (n := 1) (fun _ => rfl) ho2
    injection hv with e4 e5 e6
    subst e4
    exact hS
end Go.Proofs.YtojaompfffpofaaGreat
