import Derived.Test.YtjkhjjmmkdfjmaaMAAddRef
import Derived.Outline
namespace Go.Proofs.Ytjkhjjmmkdfjmaa
open Go.ChangeShapes Go.WideShapes Go.ChangeAt Go.RowKit
set_option linter.unusedVariables false
set_option linter.unusedSimpArgs false
attribute [local go_sem ↓] Go.wp_at_zero Go.wp_at_succ
theorem neF (k d o h am : Int) (fr tz : ByteArray) (pu : Bool) (w : World) : (binOp .neq 38 (.agg #[.int .i64 k, .int .i64 d, .string fr, .string tz, .int .i64 o, .int .i64 h, .int .i64 am, .bool pu]) (.agg #[.int .i64 k, .int .i64 d, .string fr, .string tz, .int .i64 o, .int .i64 h, .int .i64 am, .bool pu])).run Try.prog w = .ok (.bool false) w := by
  simp [go_sem]
set_option maxHeartbeats 8000000 in
set_option maxRecDepth 100000 in
theorem SameFills_eq (X : List Fl) (A B : Option Addr) (ca cb n : Nat) (w : World) (hn : Hid (n = X.length)) (hl : n ≤ 1000000) (hA : Hid (SlRows flV 8 w A X)) (hB : Hid (SlRows flV 8 w B X)) : Calls Try.prog 22 #[.slice A n ca, .slice B n cb] w fun e w' => e = .returned (.bool true) ∧ Below w.heap.size w w' := by
  obtain ⟨ab, ao, hA1, hA2⟩ : ∃ ab ao, (n = 0 ∨ A = some ⟨ab, ao, none⟩) ∧ Hid (X = [] ∨ (ab < w.heap.size ∧ RowsAt flV 8 w ab ao X)) := by
    rcases hA.out with h | ⟨b, o, e1, e2, e3⟩
    · exact ⟨0, 0, Or.inl (by rw [hn.out, h]; rfl), Lib.hid (Or.inl h)⟩
    · exact ⟨b, o, Or.inr e1, Lib.hid (Or.inr ⟨e2, e3⟩)⟩
  obtain ⟨bb, bo, hB1, hB2⟩ : ∃ ab ao, (n = 0 ∨ B = some ⟨ab, ao, none⟩) ∧ Hid (X = [] ∨ (ab < w.heap.size ∧ RowsAt flV 8 w ab ao X)) := by
    rcases hB.out with h | ⟨b, o, e1, e2, e3⟩
    · exact ⟨0, 0, Or.inl (by rw [hn.out, h]; rfl), Lib.hid (Or.inl h)⟩
    · exact ⟨b, o, Or.inr e1, Lib.hid (Or.inr ⟨e2, e3⟩)⟩
  clear hA hB
  go_enter Try.func22, Try.ntmps22
  go_wp2
  go_loopw [5] (fun i wr => ∃ k : Nat, k ≤ n ∧ i = .int .i64 k ∧ Below w.heap.size w wr) (fun i _ => n - (intOf i).toNat)
  case atStart => exact ⟨0, by omega, rfl, Below.refl _ _⟩
  case round =>
    obtain ⟨k, hk, rfl, hW⟩ := hrel
    have zw := hW.size
    by_cases hkn : k < n
    · have kn : (k : Int) < (n : Int) := by omega
      have hkX : k < X.length := by have := hn.out; omega
      have hXne : ¬ X = [] := fun h => by rw [h] at hkX; simp at hkX
      obtain ⟨la, ra⟩ := hA2.out.resolve_left hXne
      obtain ⟨lb, rb⟩ := hB2.out.resolve_left hXne
      have eA := hA1.resolve_left (by omega)
      have eB := hB1.resolve_left (by omega)
      subst eA
      subst eB
      obtain ⟨x, hx⟩ : ∃ x, Hid (X[k] = x) := ⟨_, Lib.hid rfl⟩
      have ra' := ra.below hW la
      have rb' := rb.below hW lb
      clear hA2 hB2 ra rb hA1 hB1
      go_upto_region 6 with (fail)
      refine wp_region_held_drew (S := (fun w' => RowsAt flV 8 w' ab ao X ∧ RowsAt flV 8 w' bb bo X)) (by kernel_rfl) ⟨ra'.below ((Below.refl _ _).drew) (by omega), rb'.below ((Below.refl _ _).drew) (by omega)⟩ (fun hHeld => ?_)
      refine tkA 0 17 rfl ?_
      refine tkA 1 18 rfl ?_
      refine tkA 2 19 rfl ?_
      refine tkH 3 ⟨some 20, _, _, _, _, _⟩ ?_ rfl ?_ (by assumption) ?_
      rotate_left
      · intro wy hSw
        have hxc := fl_at hSw.1 hkX
        rw [hx.out] at hxc
        obtain ⟨q0, q1, q2, q3, q4, q5, q6, q7⟩ := hxc
        go_simp
        all_goals with_reducible rfl
      try simp only [Act.put, sA, sB, sC]
      refine tkA 4 21 rfl ?_
      refine tkA 5 22 rfl ?_
      refine tkA 6 23 rfl ?_
      refine tkH 7 ⟨some 24, _, _, _, _, _⟩ ?_ rfl ?_ (by assumption) ?_
      rotate_left
      · intro wy hSw
        have hxc := fl_at hSw.2 hkX
        rw [hx.out] at hxc
        obtain ⟨q0, q1, q2, q3, q4, q5, q6, q7⟩ := hxc
        go_simp
        all_goals with_reducible rfl
      try simp only [Act.put, sA, sB, sC]
      refine tkH 8 ⟨some 25, _, _, _, _, _⟩ ?_ rfl ?_ (by assumption) ?_
      rotate_left
      · intro wy hSw
        have hne := neF x.k x.d x.o x.h x.am x.fr x.tz x.pu wy
        go_simp
        all_goals with_reducible rfl
      try simp only [Act.put, sA, sB, sC]
      refine wpAnyH_done (by kernel_rfl) ?_ _
      have hW2 : Below w.heap.size w wr.drew := hW.drew
      clear hHeld ra' rb'
      go_wp2
      go_roundw
      case rel => exact ⟨k + 1, by omega, by go_num, hW2⟩
      case measure => simp [intOf]; omega
    · have kn : ¬ (k : Int) < (n : Int) := by omega
      go_wp2
      go_ret
      exact ⟨rfl, hW⟩
end Go.Proofs.Ytjkhjjmmkdfjmaa
