/- The specification's roots of the levels up to one. -/
import Derived.Test.YtbdiljbjddppcaaRefRoot
import Derived.Maps.AppendAt
import Derived.OwnWalk
import Derived.Outline
namespace Go.Proofs.Ytbdiljbjddppcaa
open Go.ChangeShapes Go.WideShapes Go.ChangeAt Go.RowKit
set_option linter.unusedVariables false
set_option linter.unusedSimpArgs false

theorem own_below {w w' : World} {base N : Nat} {e : TypeId} {s n : Nat} {v : Value} {xs : List Value} (h : w.ownsRow base e s v n xs) (hb : Below N w w') (hN : w.heap.size ≤ N) : w'.ownsRow base e s v n xs := by
  refine ⟨h.1, ?_⟩
  rcases h.2 with hn | ⟨g, cap, cur, rfl, hg, hgg, rest⟩
  · exact .inl hn
  · refine .inr ⟨g, cap, cur, rfl, hg, ?_, rest⟩
    rw [hb.block g (Nat.lt_of_lt_of_le (Array.getElem?_eq_some_iff.1 hgg).1 hN)]
    exact hgg
theorem roots_own' {w : World} {base L : Nat} {e : TypeId} {v : Value} (h : w.ownsRow base e 2 v (L + 1) (rcs (L + 1))) : RootsAt w v L base := by
  rcases h.2 with ⟨_, h0⟩ | ⟨g, cap, cur, rfl, hb, hg, hle, hmx, _⟩
  · omega
  · refine ⟨g, cap, rfl, (Array.getElem?_eq_some_iff.1 hg).1, by omega, hle, hmx, fun k u hk => ?_⟩
    have c := World.ownsRow.cells h (g := g) rfl k u hk
    unfold Addr.add at c
    split at c
    · rename_i hz; subst hz; exact c
    · simpa using c
set_option maxRecDepth 100000 in
set_option maxHeartbeats 1000000 in
theorem refRoots_any (L : Nat) (w : World) (hL : L ≤ 40) :
    Calls Try.prog 63 #[.int .i64 L] w fun e w' => ∃ v, e = .returned v ∧ RootsAt w' v L w.heap.size ∧ Below w.heap.size w w' := by
  obtain ⟨i0, hi, hz0, hz1, hz2⟩ := info_parts infoRange
  have HI := Lib.hid hi
  have HZ0 := Lib.hid hz0
  have HZ1 := Lib.hid hz1
  have HZ2 := Lib.hid hz2
  clear hi hz0 hz1 hz2
  go_enter Try.func63, Try.ntmps63
  go_wp2
  go_loopw [3, 4] (fun v i wr => ∃ (k : Nat), i = .int .i64 k ∧ k ≤ L + 1 ∧ Hid (wr.ownsRow w.heap.size 34 2 v k (rcs k)) ∧ Below w.heap.size w wr) (fun _ i _ => L + 1 - (intOf i).toNat)
  case atStart => exact ⟨0, rfl, by omega, World.ownsRow_nil _ _ _ _, (by (repeat (first | (with_reducible refine Below.drew ?_) | (with_reducible refine below_drewN ?_ _) | (with_reducible refine Below.alloc ?_ (by first | omega | (simp; done) | (simp; omega) | (simp at *; omega)) _) | (with_reducible refine Below.setCell ?_ (by first | omega | (simp; done) | (simp; omega) | (simp at *; omega)) _) | (with_reducible exact Below.refl _ _) | (with_reducible assumption) | (with_reducible refine Below.trans ?_ (Below.mono (by assumption) (by first | omega | (simp; done) | (simp; omega) | (simp at *; omega)))))))⟩
  case round =>
    obtain ⟨k, rfl, hk, HO, hB⟩ := hrel
    have sz := hB.size
    by_cases hkl : k ≤ L
    · obtain ⟨x, hx⟩ : ∃ x, Hid ((rootP k).1 = x) := ⟨_, rfl⟩
      obtain ⟨y, hy⟩ : ∃ x, Hid ((rootP k).2 = x) := ⟨_, rfl⟩
      have HQ : Hid (∀ w, Calls Try.prog 24 #[.int .i64 k] w fun e w' => e = .returned (.agg #[.int .i64 x, .int .i64 y]) ∧ Below w.heap.size w w') := fun w => by
        rw [← hx.out, ← hy.out]; exact refRootOf_any k w (by omega)
      have HN : Hid (rcs (k + 1) = rcs k ++ [.int .i64 x, .int .i64 y]) := by show _ = _; rw [rcs_succ, hx.out, hy.out]
      have hk1 : (k : Int) ≤ L := by omega
      clear hx hy
      go_wp2_with fail
      refine (HQ.out _).mono ?_
      rintro e w1 ⟨rfl, hb1⟩
      have HO1 := Lib.hid (own_below HO.out hb1 (by simp))
      have sz1 := hb1.size
      have hB1 : Below w.heap.size w w1 := (by (repeat (first | (with_reducible refine Below.drew ?_) | (with_reducible refine below_drewN ?_ _) | (with_reducible refine Below.alloc ?_ (by first | omega | (simp; done) | (simp; omega) | (simp at *; omega)) _) | (with_reducible refine Below.setCell ?_ (by first | omega | (simp; done) | (simp; omega) | (simp at *; omega)) _) | (with_reducible exact Below.refl _ _) | (with_reducible assumption) | (with_reducible refine Below.trans ?_ (Below.mono (by assumption) (by first | omega | (simp; done) | (simp; omega) | (simp at *; omega)))))))
      clear hb1 hB
      go_wp2_with (at_builtin; refine wpList_append_own_at _ rfl _ _ 98 rfl w.heap.size 34 i0 (.agg #[.int .i64 0, .int .i64 0]) 2 16 Try.underlying98 HI.out HZ0.out HZ1.out HZ2.out rfl (by decide) _ _ _ rfl (HO1.out.alloc _) ⟨w1.heap.size, 0, none⟩ 1 1 [.int .i64 x, .int .i64 y] rfl rfl ?c0 ?c1 ?c2 ?c3 ?c4 ?_)
      case c0 =>
        intro j u hj
        match j, hj with
        | 0, hj => simp at hj; subst hj; simp [Addr.add, go_sem]
        | 1, hj => simp at hj; subst hj; simp [Addr.add, go_sem]
      case c1 => intro u hu; simp at hu; rcases hu with rfl | rfl <;> rfl
      case c2 => unfold maxLen; omega
      case c3 => omega
      case c4 => simp; omega
      intro v' w5 hown hgrow hnn hblk
      have hB5 : Below w.heap.size w w5 := hB1.trans (((Below.refl w.heap.size w1).alloc (by omega) _).grown hgrow (by simp; omega) (own_block1 HO.out))
      have HOW : Hid (w5.ownsRow w.heap.size 34 2 v' (k + 1) (rcs (k + 1))) := by
        show World.ownsRow _ _ _ _ _ _ _
        rw [HN.out]
        exact hown
      clear hown hgrow hnn hblk HO HO1
      go_wp2
      go_roundw
      case rel => exact ⟨k + 1, by go_num, by omega, HOW, hB5⟩
      case measure => (simp [intOf]) <;> omega
    · have hkk : k = L + 1 := by omega
      subst hkk
      have hk1 : ¬ ((L + 1 : Nat) : Int) ≤ L := by omega
      go_wp2
      go_ret
      exact ⟨_, rfl, roots_own' HO.out, hB⟩
end Go.Proofs.Ytbdiljbjddppcaa
