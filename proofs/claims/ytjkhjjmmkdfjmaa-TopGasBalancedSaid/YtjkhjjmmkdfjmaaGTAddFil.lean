import Derived.Test.YtjkhjjmmkdfjmaaGTClone6
import Derived.Deep.DrawnRows
import Derived.Outline
namespace Go.Proofs.Ytjkhjjmmkdfjmaa
open Go.ChangeShapes Go.WideShapes Go.ChangeAt Go.RowKit
set_option linter.unusedVariables false
set_option linter.unusedSimpArgs false
attribute [local go_sem ↓] Go.wp_at_zero Go.wp_at_succ
/-- A diary with one fill more, or the error. -/
def AddedFl (L : List Ve) (X : List Fl) (x : Fl) (w : World) (e : Ending) (w' : World) : Prop :=
  (¬ addE L X x = 0 ∧ e = .returned (.tuple #[.slice none 0 0, .int .i64 (addE L X x)]) ∧ Below w.heap.size w w') ∨
  (addE L X x = 0 ∧ ∃ A n c, e = .returned (.tuple #[.slice A n c, .int .i64 0]) ∧ Hid (n = (X ++ [x]).length) ∧ n ≤ c ∧ (c : Int) ≤ 9223372036854775807 ∧ Hid (SlRows flV 8 w' A (X ++ [x])) ∧ Below w.heap.size w w')
theorem rows1_new (u : World) (x : Fl) (t : TypeId) : RowsAt flV 8 (u.alloc (.cells #[.int .i64 x.k, .int .i64 x.d, .string x.fr, .string x.tz, .int .i64 x.o, .int .i64 x.h, .int .i64 x.am, .bool x.pu] t)) u.heap.size 0 [x] := by
  intro k hk i hi
  obtain rfl : k = 0 := by simp at hk; omega
  match i, hi with
  | 0, _ => simp [go_sem, flV]
  | 1, _ => simp [go_sem, flV]
  | 2, _ => simp [go_sem, flV]
  | 3, _ => simp [go_sem, flV]
  | 4, _ => simp [go_sem, flV]
  | 5, _ => simp [go_sem, flV]
  | 6, _ => simp [go_sem, flV]
  | 7, _ => simp [go_sem, flV]
theorem rowsV_snoc1 (X : List Fl) (x : Fl) : rowsV flV X ++ rowsV flV [x] = rowsV flV (X ++ [x]) := by simp [rowsV]
theorem rowsV_one1 (x : Fl) : (rowsV flV [x]).length = 1 * 8 := rfl
set_option maxHeartbeats 8000000 in
set_option maxRecDepth 100000 in
theorem AddFill_any (L : List Ve) (A : Option Addr) (cap n : Nat) (X : List Fl) (fA : Option Addr) (fcap m : Nat) (x : Fl) (w : World) (hlen : Hid (n = L.length)) (hl : n ≤ 1000000) (hsz : Hid (∀ g ∈ L, g.nm.size ≤ 1000000)) (hL : Hid (SlRows veV 3 w A L)) (hm : Hid (m = X.length)) (cF : fA = none → fcap = 0) (hX : Hid (SlRows flV 8 w fA X)) : Calls Try.prog 20 #[.slice A n cap, .slice fA m fcap, .agg #[.int .i64 x.k, .int .i64 x.d, .string x.fr, .string x.tz, .int .i64 x.o, .int .i64 x.h, .int .i64 x.am, .bool x.pu]] w (AddedFl L X x w) := by
  obtain ⟨⟨N, E⟩, hD⟩ : ∃ p, Hid (behP L X = p) := ⟨_, Lib.hid rfl⟩
  obtain ⟨r, hr⟩ : ∃ r, Hid (runR (rm0 L) X = r) := ⟨_, Lib.hid rfl⟩
  have HL : Hid (∀ x, Below w.heap.size w x → SlRows veV 3 x A L) := Lib.hid fun x hb => hL.out.below hb
  have HX : Hid (∀ x, Below w.heap.size w x → SlRows flV 8 x fA X) := Lib.hid fun x hb => hX.out.below hb
  have hD2 : Hid ((behP L X).2 = E) := Lib.hid (by rw [hD.out])
  obtain ⟨i0, hi, hz0, hz1, hz2⟩ := info_partsF infoFl
  have HI := Lib.hid hi
  have HZ0 := Lib.hid hz0
  have HZ1 := Lib.hid hz1
  have HZ2 := Lib.hid hz2
  clear hi hz0 hz1 hz2
  go_enter Try.func20, Try.ntmps20
  go_wp2_with fail
  refine (behind_anyF L A cap n X fA fcap m N E r _ hlen hl hsz (Lib.hid (HL.out _ ((Below.refl _ _).alloc (Nat.le_refl _) _))) hm (Lib.hid (HX.out _ ((Below.refl _ _).alloc (Nat.le_refl _) _))) hD hr).mono ?_
  rintro e x1 (⟨hz, rfl, hb⟩ | ⟨hz, A', vb, cap', n', rfl, hn', hv, hb⟩)
  · have hz1 : (E != 0) = true := by simpa using hz
    have hB : Below w.heap.size w x1 := ((Below.refl _ _).alloc (Nat.le_refl _) _).trans (hb.mono (by simp))
    have hE : addE L X x = E := by unfold addE; rw [hD2.out, if_neg hz]
    clear hb
    go_wp2
    go_ret2
    unfold AddedFl
    rw [hE]
    exact Or.inl ⟨hz, rfl, hB.trans ((show Below x1.heap.size x1 _ from belA).mono hB.size)⟩
  subst hz
  subst hn'
  obtain ⟨l20, l200⟩ := beh_len hD2.out
  obtain ⟨ok1, _, _, hmap⟩ := beh_all hD.out
  rw [hr.out] at ok1 hmap
  have hHl : r.H.length ≤ 1000 := by have h2 := congrArg List.length hmap; rw [List.length_map] at h2; omega
  have zb := hb.size
  simp at zb
  have hB : Below w.heap.size w x1 := ((Below.refl _ _).alloc (Nat.le_refl _) _).trans (hb.mono (by simp))
  have hxx : RowsAt flV 8 x1 w.heap.size 0 [x] := (rows1_new w x _).below hb (by simp)
  obtain ⟨vb, hv, hv0, hv1⟩ : ∃ vb, (r.H = [] ∨ (A' = some ⟨vb, 0, none⟩ ∧ vb < x1.heap.size ∧ RowsAt hdV 6 x1 vb 0 r.H ∧ ∀ j, x1.frozen? ⟨vb, j, none⟩ = false)) ∧ w.heap.size < vb ∧ vb ≠ w.heap.size := by
    rcases hv with h | ⟨h1, h2, h3, h4, h5⟩
    · exact ⟨x1.heap.size, Or.inl h, by omega, by omega⟩
    · simp at h2
      exact ⟨vb, Or.inr ⟨h1, h3, h4, h5⟩, by omega, by omega⟩
  have hv := Lib.hid hv
  have ok1 := Lib.hid ok1
  clear hb hmap
  by_cases h200 : 200 ≤ m
  · have g1 : (200 : Int) ≤ (m : Int) := by omega
    have hE : addE L X x = 8 := by unfold addE; rw [hD2.out, if_pos rfl, if_pos (by have := hm.out; omega)]
    go_wp2
    go_ret2
    unfold AddedFl
    rw [hE]
    exact Or.inl ⟨by decide, rfl, hB.trans ((show Below x1.heap.size x1 _ from belA).mono hB.size)⟩
  have g1 : ¬ (200 : Int) ≤ (m : Int) := by omega
  obtain ⟨S, hS⟩ : ∃ S, Hid (stpE r x = S) := ⟨_, Lib.hid rfl⟩
  have hE : Hid (addE L X x = S) := Lib.hid (by unfold addE; rw [hD2.out, if_pos rfl, if_neg (by have := hm.out; omega), hr.out, hS.out])
  have lw : w.heap.size < x1.heap.size := by omega
  have nw : w.heap.size ≠ x1.heap.size := by omega
  have hxc := fl_at hxx (k := 0) (by simp)
  simp only [Nat.zero_mul, Nat.zero_add, List.getElem_cons_zero] at hxc
  obtain ⟨q0, q1, q2, q3, q4, q5, q6, q7⟩ := hxc
  have hcall : Hid (∀ wy, RmAt wy x1.heap.size vb r.H.length cap' A' r → Calls Try.prog 65 #[.pointer (some ⟨x1.heap.size, 0, none⟩), .agg #[.int .i64 x.k, .int .i64 x.d, .string x.fr, .string x.tz, .int .i64 x.o, .int .i64 x.h, .int .i64 x.am, .bool x.pu]] wy (fun e w' => e = .returned (.int .i64 S) ∧ BelowD x1.heap.size vb wy.heap.size wy w')) := Lib.hid fun wy hy => (add_any x1.heap.size vb r.H.length cap' X.length A' r x wy hy ok1.out (by omega)).mono fun e w' h => ⟨by rw [h.1, hS.out], h.2.2⟩
  clear hS ok1
  go_wp2_with fail
  refine (hcall.out _ ⟨by simp [go_sem], by simp [go_sem], by simp [go_sem], by simp [go_sem], by simp [go_sem], by simp [go_sem], by simp [go_sem], by simp [go_sem], fun j => by simp [go_sem], by simp, rfl, hHl, hv.out.imp id fun h => ⟨h.1, by simp; omega, by omega, h.2.2.1.below ((Below.refl _ _).alloc (Nat.le_refl _) _) h.2.1, fun j => by have := h.2.2.2 j; have := h.2.1; simp [go_sem, *]⟩⟩).mono ?_
  rintro e x2 ⟨rfl, hDz⟩
  have zz := hDz.size
  simp at zz
  have hB2 : Below w.heap.size w x2 := by
    have hBw := hB.alloc (show w.heap.size ≤ x1.heap.size by omega) (.cells #[.slice A' r.H.length cap', .int .i64 r.g0, .int .i64 r.g1, .int .i64 r.g2, .int .i64 r.k0, .int .i64 r.k1, .int .i64 r.k2, .int .i64 r.dy] 120)
    exact ⟨hDz.os.trans hBw.os, hDz.tape.trans hBw.tape, hDz.output.trans hBw.output, Nat.le_trans hBw.size hDz.size, fun i hi => (hDz.block i (by simp; omega) (by omega) (by omega)).trans (hBw.block i hi)⟩
  have hx2 : RowsAt flV 8 x2 w.heap.size 0 [x] := fun k hk i hi => by
    rw [← (hxx.below ((Below.refl _ _).alloc (Nat.le_refl _) _) lw) k hk i hi]
    exact hDz.cell (by simp; omega) (by omega) (by omega)
  have zu2 := hB2.size
  have lw2 : w.heap.size < x2.heap.size := by omega
  clear hDz hcall hv q0 q1 q2 q3 q4 q5 q6 q7 hxx
  by_cases hS0 : S = 0
  · subst hS0
    go_upto_region 9 with (fail)
    refine wp_region_held_drew (S := (fun w' => RowsAt flV 8 w' w.heap.size 0 [x])) (by kernel_rfl) (hx2.below ((Below.refl _ _).drew) lw2) (fun hHeld => ?_)
    refine tkA 0 30 rfl ?_
    refine tkH 2 ⟨some 32, _, _, _, _, _⟩ ?_ rfl ?_ (by assumption) ?_
    rotate_left
    · intro wy hSw
      have hxc := fl_at hSw (k := 0) (by simp)
      simp only [Nat.zero_mul, Nat.zero_add, List.getElem_cons_zero] at hxc
      obtain ⟨q0, q1, q2, q3, q4, q5, q6, q7⟩ := hxc
      go_simp
      all_goals with_reducible rfl
    try simp only [Act.put, sA, sB, sC]
    refine wpAnyH_ready (rs := [1, 3]) (by kernel_rfl) (by simp) ?_
    have hBx : Below x2.heap.size x2 x2.drew := (Below.refl _ _).drew
    refine AllReadyH.cons rfl (fun K hK => ?_) (AllReadyH.cons rfl (fun K hK => ?_) AllReadyH.nil)
    · go_simp
      refine (cloneFl_n X fA fcap m _ hm (by omega) cF (HX.out _ (hB2.trans (hBx.mono hB2.size)))).mono ?_
      rintro e u1 ⟨v0, rfl, hown, hb1⟩
      have hBx : Below x2.heap.size x2 u1 := hBx.trans (hb1.mono hBx.size)
      have HO := Lib.hid hown
      clear hown
      clear hb1
      go_wp2_with fail
      refine hK.out _ _ (hx2.below hBx lw2) (fun hHeld => ?_)
      clear hK K
      try simp only [Act.put, sA, sB, sC]
      refine rdA 3 rfl (fun K hK => ?_)
      go_simp
      go_wp2_with fail
      have hel := rows1_new u1 x 38
      replace HO := Lib.hid (own_belowM HO.out ((Below.refl u1.heap.size u1).alloc (Nat.le_refl _) (.cells #[.int .i64 x.k, .int .i64 x.d, .string x.fr, .string x.tz, .int .i64 x.o, .int .i64 x.h, .int .i64 x.am, .bool x.pu] 38)) (Nat.le_refl _))
      have hBx := hBx.alloc hBx.size (.cells #[.int .i64 x.k, .int .i64 x.d, .string x.fr, .string x.tz, .int .i64 x.o, .int .i64 x.h, .int .i64 x.am, .bool x.pu] 38)
      have zx := hBx.size
      simp at zx
      refine hK.out _ _ (hx2.below hBx lw2) (fun hHeld => ?_)
      clear hK K
      try simp only [Act.put, sA, sB, sC]
      refine rdA 4 rfl (fun K hK => ?_)
      rw [if_pos (by kernel_rfl)]
      refine oper_append_own_at _ _ 23 rfl _ 38 i0 (.agg #[.int .i64 0, .int .i64 0, .string ⟨#[]⟩, .string ⟨#[]⟩, .int .i64 0, .int .i64 0, .int .i64 0, .bool false]) 8 80 Try.underlying23 HI.out HZ0.out HZ1.out HZ2.out rfl (by decide) _ _ _ rfl HO.out _ 1 _ (rowsV flV [x]) rfl (rowsV_one1 x) (rowsV_cells (f := flV) (n := 8) (fun _ => rfl) (by decide) hel) (rows_one flV_one [x]) ?c2 ?c3 ?c4 ?_
      case c2 => unfold maxLen; omega
      case c3 => omega
      case c4 => first | omega | (simp; omega)
      intro v' u4 hown hgrow
      rw [rowsV_snoc1] at hown
      have hB4 : Below x2.heap.size x2 u4 := hBx.grown hgrow hBx.size (fun r hr => by have := own_blockF HO.out r hr; simp at this; omega)
      have hS4 := SlRows_own (f := flV) (n := 8) (fun _ => rfl) (L := X ++ [x]) (by rw [List.length_append]; exact hown)
      obtain ⟨A4, c4, rfl, hs4, _, _, hc1, hc2⟩ := hS4
      have hs4 := Lib.hid hs4
      clear hown hgrow HO hel
      refine hK.out _ _ (hx2.below hB4 lw2) (fun hHeld => ?_)
      clear hK K
      try simp only [Act.put, sA, sB, sC]
      refine tkA 5 6 rfl ?_
      refine tkA 6 7 rfl ?_
      refine wpAnyH_done (by kernel_rfl) ?_ _
      go_wp2
      go_ret2
      unfold AddedFl
      rw [hE.out]
      have hc3 : (c4 : Int) ≤ 9223372036854775807 := by unfold maxLen at hc2; omega
      exact Or.inr ⟨rfl, A4, (X ++ [x]).length, c4, (by first | rfl | (simp [go_sem]; done) | (simp [go_sem]; rfl)), Lib.hid rfl, hc1, hc3, Lib.hid (hs4.out.below (show Below u4.heap.size u4 _ from belA)), (hB2.trans (hB4.mono hB2.size)).trans ((show Below u4.heap.size u4 _ from belA).mono (Nat.le_trans hB2.size hB4.size))⟩
    · go_simp
      go_wp2_with fail
      have hel := rows1_new x2.drew x 38
      have hBx := hBx.alloc hBx.size (.cells #[.int .i64 x.k, .int .i64 x.d, .string x.fr, .string x.tz, .int .i64 x.o, .int .i64 x.h, .int .i64 x.am, .bool x.pu] 38)
      refine hK.out _ _ (hx2.below hBx lw2) (fun hHeld => ?_)
      clear hK K
      try simp only [Act.put, sA, sB, sC]
      refine rdA 1 rfl (fun K hK => ?_)
      go_simp
      refine (cloneFl_n X fA fcap m _ hm (by omega) cF (HX.out _ (hB2.trans (hBx.mono hB2.size)))).mono ?_
      rintro e u1 ⟨v0, rfl, hown, hb1⟩
      have hBx : Below x2.heap.size x2 u1 := hBx.trans (hb1.mono hBx.size)
      have HO := Lib.hid hown
      clear hown
      replace hel := hel.below hb1 (by simp)
      have zx := hb1.size
      simp at zx
      clear hb1
      go_wp2_with fail
      refine hK.out _ _ (hx2.below hBx lw2) (fun hHeld => ?_)
      clear hK K
      try simp only [Act.put, sA, sB, sC]
      refine rdA 4 rfl (fun K hK => ?_)
      rw [if_pos (by kernel_rfl)]
      refine oper_append_own_at _ _ 23 rfl _ 38 i0 (.agg #[.int .i64 0, .int .i64 0, .string ⟨#[]⟩, .string ⟨#[]⟩, .int .i64 0, .int .i64 0, .int .i64 0, .bool false]) 8 80 Try.underlying23 HI.out HZ0.out HZ1.out HZ2.out rfl (by decide) _ _ _ rfl HO.out _ 1 _ (rowsV flV [x]) rfl (rowsV_one1 x) (rowsV_cells (f := flV) (n := 8) (fun _ => rfl) (by decide) hel) (rows_one flV_one [x]) ?c2 ?c3 ?c4 ?_
      case c2 => unfold maxLen; omega
      case c3 => omega
      case c4 => first | omega | (simp; omega)
      intro v' u4 hown hgrow
      rw [rowsV_snoc1] at hown
      have hB4 : Below x2.heap.size x2 u4 := hBx.grown hgrow hBx.size (fun r hr => by have := own_blockF HO.out r hr; simp at this; omega)
      have hS4 := SlRows_own (f := flV) (n := 8) (fun _ => rfl) (L := X ++ [x]) (by rw [List.length_append]; exact hown)
      obtain ⟨A4, c4, rfl, hs4, _, _, hc1, hc2⟩ := hS4
      have hs4 := Lib.hid hs4
      clear hown hgrow HO hel
      refine hK.out _ _ (hx2.below hB4 lw2) (fun hHeld => ?_)
      clear hK K
      try simp only [Act.put, sA, sB, sC]
      refine tkA 5 6 rfl ?_
      refine tkA 6 7 rfl ?_
      refine wpAnyH_done (by kernel_rfl) ?_ _
      go_wp2
      go_ret2
      unfold AddedFl
      rw [hE.out]
      have hc3 : (c4 : Int) ≤ 9223372036854775807 := by unfold maxLen at hc2; omega
      exact Or.inr ⟨rfl, A4, (X ++ [x]).length, c4, (by first | rfl | (simp [go_sem]; done) | (simp [go_sem]; rfl)), Lib.hid rfl, hc1, hc3, Lib.hid (hs4.out.below (show Below u4.heap.size u4 _ from belA)), (hB2.trans (hB4.mono hB2.size)).trans ((show Below u4.heap.size u4 _ from belA).mono (Nat.le_trans hB2.size hB4.size))⟩
  · have hS1 : (S != 0) = true := by simpa using hS0
    go_wp2
    go_ret2
    unfold AddedFl
    rw [hE.out]
    exact Or.inl ⟨hS0, rfl, hB2.trans ((show Below x2.heap.size x2 _ from belA).mono hB2.size)⟩
end Go.Proofs.Ytjkhjjmmkdfjmaa
