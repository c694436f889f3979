import Derived.Test.YtjkhjjmmkdfjmaaMAAddFil
import Derived.Test.YtjkhjjmmkdfjmaaMAAft
import Derived.Deep.CutRange
import Derived.Deep.CutBlock
import Derived.Outline
namespace Go.Proofs.Ytjkhjjmmkdfjmaa
open Go.ChangeShapes Go.WideShapes Go.ChangeAt Go.RowKit
set_option linter.unusedVariables false
set_option linter.unusedSimpArgs false
attribute [local go_sem ↓] Go.wp_at_zero Go.wp_at_succ
theorem rows_grown {α : Type} {f : α → List Value} {n : Nat} {w w' : World} {b off : Nat} {L : List α} {row : Option Nat} (h : RowsAt f n w b off L) (hg : w.grownBy w' row) (hb : b < w.heap.size) (hne : some b ≠ row) : RowsAt f n w' b off L := by
  intro k hk i hi
  rw [← h k hk i hi]
  exact World.cell?_of_block (a := ⟨b, _, none⟩) (hg.block b hb hne)
set_option maxHeartbeats 8000000 in
set_option maxRecDepth 100000 in
theorem refAddFill_any (L : List Ve) (A : Option Addr) (cap n : Nat) (X : List Fl) (fA : Option Addr) (fcap m : Nat) (x : Fl) (w : World) (hlen : Hid (n = L.length)) (hcap : n ≤ cap) (hcm : (cap : Int) ≤ 9223372036854775807) (hsz : Hid (∀ g ∈ L, g.nm.size ≤ 1000000)) (hL : Hid (SlRows veV 3 w A L)) (hm' : Hid (m = X.length)) (cF : fA = none → fcap = 0) (hX : Hid (SlRows flV 8 w fA X)) : Calls Try.prog 21 #[.slice A n cap, .slice fA m fcap, .agg #[.int .i64 x.k, .int .i64 x.d, .string x.fr, .string x.tz, .int .i64 x.o, .int .i64 x.h, .int .i64 x.am, .bool x.pu]] w (AddedFl L X x w) := by
  obtain rfl := hm'.out
  obtain ⟨⟨N, E⟩, hD⟩ : ∃ p, Hid (behP L X = p) := ⟨_, Lib.hid rfl⟩
  obtain ⟨⟨N1, E1⟩, hD1⟩ : ∃ p, Hid (behP L (X ++ [x]) = p) := ⟨_, Lib.hid rfl⟩
  have HL : Hid (∀ x, Below w.heap.size w x → SlRows veV 3 x A L) := Lib.hid fun x hb => hL.out.below hb
  have HX : Hid (∀ x, Below w.heap.size w x → SlRows flV 8 x fA X) := Lib.hid fun x hb => hX.out.below hb
  have hD2 : Hid ((behP L X).2 = E) := Lib.hid (by rw [hD.out])
  have hEz : Hid (E = 0 → addE L X x = E1) := Lib.hid fun h => by rw [← beh_snoc (by rw [hD2.out, h]), hD1.out]
  obtain ⟨i0, hi, hz0, hz1, hz2⟩ := info_partsF infoFl
  have HI := Lib.hid hi
  have HZ0 := Lib.hid hz0
  have HZ1 := Lib.hid hz1
  have HZ2 := Lib.hid hz2
  clear hi hz0 hz1 hz2
  go_enter Try.func21, Try.ntmps21
  go_wp2_with fail
  refine (refFills_any L A cap n X fA fcap X.length N E _ hlen hcap hcm hsz (Lib.hid (HL.out _ ((Below.refl _ _).alloc (Nat.le_refl _) _))) (Lib.hid rfl) (Lib.hid (HX.out _ ((Below.refl _ _).alloc (Nat.le_refl _) _))) hD).mono ?_
  rintro e x2 ⟨rfl, hb⟩
  have hB2 : Below w.heap.size w x2 := ((Below.refl _ _).alloc (Nat.le_refl _) _).trans (hb.mono (by simp))
  have zu2 := hB2.size
  have zb := hb.size
  simp at zb
  have lw2 : w.heap.size < x2.heap.size := by omega
  have hx2 : RowsAt flV 8 x2 w.heap.size 0 [x] := (rows1_new w x _).below hb (by simp)
  clear hb
  by_cases hE0 : E = 0
  · subst hE0
    obtain ⟨l20, l200⟩ := beh_len hD2.out
    replace hEz := Lib.hid (hEz.out rfl)
    go_upto_region 4 with (fail)
    refine wp_region_held_drew (S := (fun w' => RowsAt flV 8 w' w.heap.size 0 [x])) (by kernel_rfl) (hx2.below ((Below.refl _ _).drew) lw2) (fun hHeld => ?_)
    refine tkA 1 23 rfl ?_
    refine tkH 3 ⟨some 25, _, _, _, _, _⟩ ?_ rfl ?_ (by assumption) ?_
    rotate_left
    · intro wy hSw
      have hxc := fl_at hSw (k := 0) (by simp)
      simp only [Nat.zero_mul, Nat.zero_add, List.getElem_cons_zero] at hxc
      obtain ⟨q0, q1, q2, q3, q4, q5, q6, q7⟩ := hxc
      go_simp
      all_goals with_reducible rfl
    try simp only [Act.put, sA, sB, sC]
    have hBx : Below x2.heap.size x2 x2.drew := (Below.refl _ _).drew
    refine wpAnyH_ready (rs := [0, 4]) (by kernel_rfl) (by simp) ?_
    refine AllReadyH.cons rfl (fun K hK => ?_) (AllReadyH.cons rfl (fun K hK => ?_) AllReadyH.nil)
    · go_simp
      go_wp2_with fail
      have HO := Lib.hid (World.ownsRow_made (base := x2.heap.size) (e := 38) (size := 8) x2.drew #[] 0 hBx.size (by simp) (by simp))
      have hBx := hBx.alloc hBx.size (.cells #[] 38)
      refine hK.out _ _ (hx2.below hBx lw2) (fun hHeld => ?_)
      clear hK K
      try simp only [Act.put, sA, sB, sC]
      refine wpAnyH_ready (rs := [2, 4]) (by kernel_rfl) (by simp) ?_
      refine AllReadyH.cons rfl (fun K hK => ?_) (AllReadyH.cons rfl (fun K hK => ?_) AllReadyH.nil)
      · rw [if_pos (by kernel_rfl)]
        refine oper_append_slice _ _ 23 rfl x2.heap.size 38 i0 (.agg #[.int .i64 0, .int .i64 0, .string ⟨#[]⟩, .string ⟨#[]⟩, .int .i64 0, .int .i64 0, .int .i64 0, .bool false]) 8 80 Try.underlying23 HI.out HZ0.out HZ1.out HZ2.out rfl (by decide) _ 0 [] rfl HO.out fA X.length fcap (rowsV flV X) rfl ?c0 (rowsV_len (f := flV) (n := 8) (fun _ => rfl) X) ?c1 (rows_one flV_one X) ?c2 ?c3 ?c4 ?_
        case c0 =>
          intro hc
          refine ⟨?_, cF hc⟩
          rcases hX.out with h | ⟨_, _, h, _⟩
          · rw [h]; rfl
          · rw [hc] at h; cases h
        case c1 =>
          intro ad had j u hj
          rcases HX.out _ (hB2.trans (hBx.mono hB2.size)) with h | ⟨b, o, h, hlt2, hp⟩
          · rw [h] at hj; simp [rowsV] at hj
          · rw [h] at had; cases had; exact rowsV_cells (f := flV) (n := 8) (fun _ => rfl) (by decide) hp j u hj
        case c2 => unfold maxLen; omega
        case c3 => omega
        case c4 => exact hBx.size
        intro v0 u2 hown hgrow
        (try simp only [Nat.zero_add, List.nil_append] at hown)
        have hBx : Below x2.heap.size x2 u2 := hBx.grown hgrow hBx.size (fun r hr => own_blockF HO.out r hr)
        replace HO := Lib.hid hown
        clear hown hgrow
        refine hK.out _ _ (hx2.below hBx lw2) (fun hHeld => ?_)
        clear hK K
        try simp only [Act.put, sA, sB, sC]
        refine wpAnyH_ready (rs := [4]) (by kernel_rfl) (by simp) ?_
        refine AllReadyH.cons rfl (fun K hK => ?_) AllReadyH.nil
        go_simp
        go_wp2_with fail
        have hel := rows1_new u2 x 38
        have hlt : u2.heap.size < (u2.alloc (.cells #[.int .i64 x.k, .int .i64 x.d, .string x.fr, .string x.tz, .int .i64 x.o, .int .i64 x.h, .int .i64 x.am, .bool x.pu] 38)).heap.size := by simp
        replace HO := Lib.hid (own_belowM HO.out ((Below.refl u2.heap.size u2).alloc (Nat.le_refl _) (.cells #[.int .i64 x.k, .int .i64 x.d, .string x.fr, .string x.tz, .int .i64 x.o, .int .i64 x.h, .int .i64 x.am, .bool x.pu] 38)) (Nat.le_refl _))
        have hBx := hBx.alloc hBx.size (.cells #[.int .i64 x.k, .int .i64 x.d, .string x.fr, .string x.tz, .int .i64 x.o, .int .i64 x.h, .int .i64 x.am, .bool x.pu] 38)
        refine hK.out _ _ (hx2.below hBx lw2) (fun hHeld => ?_)
        clear hK K
        try simp only [Act.put, sA, sB, sC]
        refine wpAnyH_ready (rs := [5]) (by kernel_rfl) (by simp) ?_
        refine AllReadyH.cons rfl (fun K hK => ?_) AllReadyH.nil
        rw [if_pos (by kernel_rfl)]
        refine oper_append_own_at _ _ 23 rfl x2.heap.size 38 i0 (.agg #[.int .i64 0, .int .i64 0, .string ⟨#[]⟩, .string ⟨#[]⟩, .int .i64 0, .int .i64 0, .int .i64 0, .bool false]) 8 80 Try.underlying23 HI.out HZ0.out HZ1.out HZ2.out rfl (by decide) _ _ _ rfl HO.out _ 1 _ (rowsV flV [x]) rfl (rowsV_one1 x) (rowsV_cells (f := flV) (n := 8) (fun _ => rfl) (by decide) hel) (rows_one flV_one [x]) ?c2 ?c3 ?c4 ?_
        case c2 => unfold maxLen; omega
        case c3 => omega
        case c4 => exact hBx.size
        intro v' u9 hown hgrow
        rw [rowsV_snoc1] at hown
        have hB9 : Below x2.heap.size x2 u9 := hBx.grown hgrow hBx.size (fun r hr => own_blockF HO.out r hr)
        have hS9 := SlRows_own (f := flV) (n := 8) (fun _ => rfl) (L := X ++ [x]) (by rw [List.length_append]; exact hown)
        obtain ⟨A9, c9, rfl, hs9, _, hcn, hc1, hc2⟩ := hS9
        have hs9 := Lib.hid hs9
        clear hown hgrow HO hel
        refine hK.out _ _ (hx2.below hB9 lw2) (fun hHeld => ?_)
        clear hK K
        try simp only [Act.put, sA, sB, sC]
        refine tkA 6 10 rfl ?_
        refine wpAnyH_done (by kernel_rfl) ?_ _
        have hc3 : (c9 : Int) ≤ 9223372036854775807 := by unfold maxLen at hc2; omega
        go_wp2_with fail
        refine (refFills_any L A cap n (X ++ [x]) A9 c9 _ N1 E1 _ hlen hcap hcm hsz (Lib.hid (HL.out _ (hB2.trans (hB9.mono hB2.size)))) (Lib.hid (by simp)) hs9 hD1).mono ?_
        rintro e u10 ⟨rfl, hb10⟩
        have hBf : Below w.heap.size w u10 := (hB2.trans (hB9.mono hB2.size)).trans (hb10.mono (Nat.le_trans hB2.size hB9.size))
        have hs10 := Lib.hid (hs9.out.below hb10)
        clear hb10 hs9
        by_cases hE1 : E1 = 0
        · subst hE1
          go_wp2
          go_ret2
          unfold AddedFl
          rw [hEz.out]
          exact Or.inr ⟨rfl, A9, (X ++ [x]).length, c9, (by first | rfl | (simp [go_sem]; done) | (simp [go_sem]; rfl)), Lib.hid rfl, hc1, hc3, Lib.hid (hs10.out.below (show Below u10.heap.size u10 _ from belA)), hBf.trans ((show Below u10.heap.size u10 _ from belA).mono hBf.size)⟩
        · have hE2 : (E1 != 0) = true := by simpa using hE1
          go_wp2
          go_ret2
          unfold AddedFl
          rw [hEz.out]
          exact Or.inl ⟨hE1, rfl, hBf.trans ((show Below u10.heap.size u10 _ from belA).mono hBf.size)⟩
      · go_simp
        go_wp2_with fail
        have hel := rows1_new (x2.drew.alloc (.cells #[] 38)) x 38
        rw [show (x2.drew.alloc (.cells #[] 38)).heap.size = x2.heap.size + 1 by simp] at hel
        have hlt : x2.heap.size + 1 < ((x2.drew.alloc (.cells #[] 38)).alloc (.cells #[.int .i64 x.k, .int .i64 x.d, .string x.fr, .string x.tz, .int .i64 x.o, .int .i64 x.h, .int .i64 x.am, .bool x.pu] 38)).heap.size := by simp
        replace HO := Lib.hid (own_belowM HO.out ((Below.refl (x2.drew.alloc (.cells #[] 38)).heap.size (x2.drew.alloc (.cells #[] 38))).alloc (Nat.le_refl _) (.cells #[.int .i64 x.k, .int .i64 x.d, .string x.fr, .string x.tz, .int .i64 x.o, .int .i64 x.h, .int .i64 x.am, .bool x.pu] 38)) (Nat.le_refl _))
        have hBx := hBx.alloc hBx.size (.cells #[.int .i64 x.k, .int .i64 x.d, .string x.fr, .string x.tz, .int .i64 x.o, .int .i64 x.h, .int .i64 x.am, .bool x.pu] 38)
        refine hK.out _ _ (hx2.below hBx lw2) (fun hHeld => ?_)
        clear hK K
        try simp only [Act.put, sA, sB, sC]
        refine wpAnyH_ready (rs := [2]) (by kernel_rfl) (by simp) ?_
        refine AllReadyH.cons rfl (fun K hK => ?_) AllReadyH.nil
        rw [if_pos (by kernel_rfl)]
        refine oper_append_slice _ _ 23 rfl x2.heap.size 38 i0 (.agg #[.int .i64 0, .int .i64 0, .string ⟨#[]⟩, .string ⟨#[]⟩, .int .i64 0, .int .i64 0, .int .i64 0, .bool false]) 8 80 Try.underlying23 HI.out HZ0.out HZ1.out HZ2.out rfl (by decide) _ 0 [] rfl HO.out fA X.length fcap (rowsV flV X) rfl ?c0 (rowsV_len (f := flV) (n := 8) (fun _ => rfl) X) ?c1 (rows_one flV_one X) ?c2 ?c3 ?c4 ?_
        case c0 =>
          intro hc
          refine ⟨?_, cF hc⟩
          rcases hX.out with h | ⟨_, _, h, _⟩
          · rw [h]; rfl
          · rw [hc] at h; cases h
        case c1 =>
          intro ad had j u hj
          rcases HX.out _ (hB2.trans (hBx.mono hB2.size)) with h | ⟨b, o, h, hlt2, hp⟩
          · rw [h] at hj; simp [rowsV] at hj
          · rw [h] at had; cases had; exact rowsV_cells (f := flV) (n := 8) (fun _ => rfl) (by decide) hp j u hj
        case c2 => unfold maxLen; omega
        case c3 => omega
        case c4 => exact hBx.size
        intro v0 u2 hown hgrow
        (try simp only [Nat.zero_add, List.nil_append] at hown)
        have hel : RowsAt flV 8 u2 _ 0 [x] := rows_grown hel hgrow hlt (by show some _ ≠ some _; simp)
        have hBx : Below x2.heap.size x2 u2 := hBx.grown hgrow hBx.size (fun r hr => own_blockF HO.out r hr)
        replace HO := Lib.hid hown
        clear hown hgrow
        refine hK.out _ _ (hx2.below hBx lw2) (fun hHeld => ?_)
        clear hK K
        try simp only [Act.put, sA, sB, sC]
        refine wpAnyH_ready (rs := [5]) (by kernel_rfl) (by simp) ?_
        refine AllReadyH.cons rfl (fun K hK => ?_) AllReadyH.nil
        rw [if_pos (by kernel_rfl)]
        refine oper_append_own_at _ _ 23 rfl x2.heap.size 38 i0 (.agg #[.int .i64 0, .int .i64 0, .string ⟨#[]⟩, .string ⟨#[]⟩, .int .i64 0, .int .i64 0, .int .i64 0, .bool false]) 8 80 Try.underlying23 HI.out HZ0.out HZ1.out HZ2.out rfl (by decide) _ _ _ rfl HO.out _ 1 _ (rowsV flV [x]) rfl (rowsV_one1 x) (rowsV_cells (f := flV) (n := 8) (fun _ => rfl) (by decide) hel) (rows_one flV_one [x]) ?c2 ?c3 ?c4 ?_
        case c2 => unfold maxLen; omega
        case c3 => omega
        case c4 => exact hBx.size
        intro v' u9 hown hgrow
        rw [rowsV_snoc1] at hown
        have hB9 : Below x2.heap.size x2 u9 := hBx.grown hgrow hBx.size (fun r hr => own_blockF HO.out r hr)
        have hS9 := SlRows_own (f := flV) (n := 8) (fun _ => rfl) (L := X ++ [x]) (by rw [List.length_append]; exact hown)
        obtain ⟨A9, c9, rfl, hs9, _, hcn, hc1, hc2⟩ := hS9
        have hs9 := Lib.hid hs9
        clear hown hgrow HO hel
        refine hK.out _ _ (hx2.below hB9 lw2) (fun hHeld => ?_)
        clear hK K
        try simp only [Act.put, sA, sB, sC]
        refine tkA 6 10 rfl ?_
        refine wpAnyH_done (by kernel_rfl) ?_ _
        have hc3 : (c9 : Int) ≤ 9223372036854775807 := by unfold maxLen at hc2; omega
        go_wp2_with fail
        refine (refFills_any L A cap n (X ++ [x]) A9 c9 _ N1 E1 _ hlen hcap hcm hsz (Lib.hid (HL.out _ (hB2.trans (hB9.mono hB2.size)))) (Lib.hid (by simp)) hs9 hD1).mono ?_
        rintro e u10 ⟨rfl, hb10⟩
        have hBf : Below w.heap.size w u10 := (hB2.trans (hB9.mono hB2.size)).trans (hb10.mono (Nat.le_trans hB2.size hB9.size))
        have hs10 := Lib.hid (hs9.out.below hb10)
        clear hb10 hs9
        by_cases hE1 : E1 = 0
        · subst hE1
          go_wp2
          go_ret2
          unfold AddedFl
          rw [hEz.out]
          exact Or.inr ⟨rfl, A9, (X ++ [x]).length, c9, (by first | rfl | (simp [go_sem]; done) | (simp [go_sem]; rfl)), Lib.hid rfl, hc1, hc3, Lib.hid (hs10.out.below (show Below u10.heap.size u10 _ from belA)), hBf.trans ((show Below u10.heap.size u10 _ from belA).mono hBf.size)⟩
        · have hE2 : (E1 != 0) = true := by simpa using hE1
          go_wp2
          go_ret2
          unfold AddedFl
          rw [hEz.out]
          exact Or.inl ⟨hE1, rfl, hBf.trans ((show Below u10.heap.size u10 _ from belA).mono hBf.size)⟩
    · go_simp
      go_wp2_with fail
      have hel := rows1_new x2.drew x 38
      rw [show x2.drew.heap.size = x2.heap.size by simp] at hel
      have hlt : x2.heap.size < (x2.drew.alloc (.cells #[.int .i64 x.k, .int .i64 x.d, .string x.fr, .string x.tz, .int .i64 x.o, .int .i64 x.h, .int .i64 x.am, .bool x.pu] 38)).heap.size := by simp
      have hBx := hBx.alloc hBx.size (.cells #[.int .i64 x.k, .int .i64 x.d, .string x.fr, .string x.tz, .int .i64 x.o, .int .i64 x.h, .int .i64 x.am, .bool x.pu] 38)
      refine hK.out _ _ (hx2.below hBx lw2) (fun hHeld => ?_)
      clear hK K
      try simp only [Act.put, sA, sB, sC]
      refine wpAnyH_ready (rs := [0]) (by kernel_rfl) (by simp) ?_
      refine AllReadyH.cons rfl (fun K hK => ?_) AllReadyH.nil
      go_simp
      go_wp2_with fail
      have HO := (World.ownsRow_made (base := x2.heap.size) (e := 38) (size := 8) (x2.drew.alloc (.cells #[.int .i64 x.k, .int .i64 x.d, .string x.fr, .string x.tz, .int .i64 x.o, .int .i64 x.h, .int .i64 x.am, .bool x.pu] 38)) #[] 0 hBx.size (by simp) (by simp))
      rw [show (x2.drew.alloc (.cells #[.int .i64 x.k, .int .i64 x.d, .string x.fr, .string x.tz, .int .i64 x.o, .int .i64 x.h, .int .i64 x.am, .bool x.pu] 38)).heap.size = x2.heap.size + 1 by simp] at HO
      replace HO := Lib.hid HO
      have hel := hel.below ((Below.refl (x2.drew.alloc (.cells #[.int .i64 x.k, .int .i64 x.d, .string x.fr, .string x.tz, .int .i64 x.o, .int .i64 x.h, .int .i64 x.am, .bool x.pu] 38)).heap.size (x2.drew.alloc (.cells #[.int .i64 x.k, .int .i64 x.d, .string x.fr, .string x.tz, .int .i64 x.o, .int .i64 x.h, .int .i64 x.am, .bool x.pu] 38))).alloc (Nat.le_refl _) (.cells #[] 38)) hlt
      replace hlt : x2.heap.size < ((x2.drew.alloc (.cells #[.int .i64 x.k, .int .i64 x.d, .string x.fr, .string x.tz, .int .i64 x.o, .int .i64 x.h, .int .i64 x.am, .bool x.pu] 38)).alloc (.cells #[] 38)).heap.size := by simp; omega
      have hBx := hBx.alloc hBx.size (.cells #[] 38)
      refine hK.out _ _ (hx2.below hBx lw2) (fun hHeld => ?_)
      clear hK K
      try simp only [Act.put, sA, sB, sC]
      refine wpAnyH_ready (rs := [2]) (by kernel_rfl) (by simp) ?_
      refine AllReadyH.cons rfl (fun K hK => ?_) AllReadyH.nil
      rw [if_pos (by kernel_rfl)]
      refine oper_append_slice _ _ 23 rfl x2.heap.size 38 i0 (.agg #[.int .i64 0, .int .i64 0, .string ⟨#[]⟩, .string ⟨#[]⟩, .int .i64 0, .int .i64 0, .int .i64 0, .bool false]) 8 80 Try.underlying23 HI.out HZ0.out HZ1.out HZ2.out rfl (by decide) _ 0 [] rfl HO.out fA X.length fcap (rowsV flV X) rfl ?c0 (rowsV_len (f := flV) (n := 8) (fun _ => rfl) X) ?c1 (rows_one flV_one X) ?c2 ?c3 ?c4 ?_
      case c0 =>
        intro hc
        refine ⟨?_, cF hc⟩
        rcases hX.out with h | ⟨_, _, h, _⟩
        · rw [h]; rfl
        · rw [hc] at h; cases h
      case c1 =>
        intro ad had j u hj
        rcases HX.out _ (hB2.trans (hBx.mono hB2.size)) with h | ⟨b, o, h, hlt2, hp⟩
        · rw [h] at hj; simp [rowsV] at hj
        · rw [h] at had; cases had; exact rowsV_cells (f := flV) (n := 8) (fun _ => rfl) (by decide) hp j u hj
      case c2 => unfold maxLen; omega
      case c3 => omega
      case c4 => exact hBx.size
      intro v0 u2 hown hgrow
      (try simp only [Nat.zero_add, List.nil_append] at hown)
      have hel : RowsAt flV 8 u2 _ 0 [x] := rows_grown hel hgrow hlt (by show some _ ≠ some _; simp)
      have hBx : Below x2.heap.size x2 u2 := hBx.grown hgrow hBx.size (fun r hr => own_blockF HO.out r hr)
      replace HO := Lib.hid hown
      clear hown hgrow
      refine hK.out _ _ (hx2.below hBx lw2) (fun hHeld => ?_)
      clear hK K
      try simp only [Act.put, sA, sB, sC]
      refine wpAnyH_ready (rs := [5]) (by kernel_rfl) (by simp) ?_
      refine AllReadyH.cons rfl (fun K hK => ?_) AllReadyH.nil
      rw [if_pos (by kernel_rfl)]
      refine oper_append_own_at _ _ 23 rfl x2.heap.size 38 i0 (.agg #[.int .i64 0, .int .i64 0, .string ⟨#[]⟩, .string ⟨#[]⟩, .int .i64 0, .int .i64 0, .int .i64 0, .bool false]) 8 80 Try.underlying23 HI.out HZ0.out HZ1.out HZ2.out rfl (by decide) _ _ _ rfl HO.out _ 1 _ (rowsV flV [x]) rfl (rowsV_one1 x) (rowsV_cells (f := flV) (n := 8) (fun _ => rfl) (by decide) hel) (rows_one flV_one [x]) ?c2 ?c3 ?c4 ?_
      case c2 => unfold maxLen; omega
      case c3 => omega
      case c4 => exact hBx.size
      intro v' u9 hown hgrow
      rw [rowsV_snoc1] at hown
      have hB9 : Below x2.heap.size x2 u9 := hBx.grown hgrow hBx.size (fun r hr => own_blockF HO.out r hr)
      have hS9 := SlRows_own (f := flV) (n := 8) (fun _ => rfl) (L := X ++ [x]) (by rw [List.length_append]; exact hown)
      obtain ⟨A9, c9, rfl, hs9, _, hcn, hc1, hc2⟩ := hS9
      have hs9 := Lib.hid hs9
      clear hown hgrow HO hel
      refine hK.out _ _ (hx2.below hB9 lw2) (fun hHeld => ?_)
      clear hK K
      try simp only [Act.put, sA, sB, sC]
      refine tkA 6 10 rfl ?_
      refine wpAnyH_done (by kernel_rfl) ?_ _
      have hc3 : (c9 : Int) ≤ 9223372036854775807 := by unfold maxLen at hc2; omega
      go_wp2_with fail
      refine (refFills_any L A cap n (X ++ [x]) A9 c9 _ N1 E1 _ hlen hcap hcm hsz (Lib.hid (HL.out _ (hB2.trans (hB9.mono hB2.size)))) (Lib.hid (by simp)) hs9 hD1).mono ?_
      rintro e u10 ⟨rfl, hb10⟩
      have hBf : Below w.heap.size w u10 := (hB2.trans (hB9.mono hB2.size)).trans (hb10.mono (Nat.le_trans hB2.size hB9.size))
      have hs10 := Lib.hid (hs9.out.below hb10)
      clear hb10 hs9
      by_cases hE1 : E1 = 0
      · subst hE1
        go_wp2
        go_ret2
        unfold AddedFl
        rw [hEz.out]
        exact Or.inr ⟨rfl, A9, (X ++ [x]).length, c9, (by first | rfl | (simp [go_sem]; done) | (simp [go_sem]; rfl)), Lib.hid rfl, hc1, hc3, Lib.hid (hs10.out.below (show Below u10.heap.size u10 _ from belA)), hBf.trans ((show Below u10.heap.size u10 _ from belA).mono hBf.size)⟩
      · have hE2 : (E1 != 0) = true := by simpa using hE1
        go_wp2
        go_ret2
        unfold AddedFl
        rw [hEz.out]
        exact Or.inl ⟨hE1, rfl, hBf.trans ((show Below u10.heap.size u10 _ from belA).mono hBf.size)⟩
  · have hE1 : (E != 0) = true := by simpa using hE0
    have hE : addE L X x = E := by unfold addE; rw [hD2.out, if_neg hE0]
    go_wp2
    go_ret2
    unfold AddedFl
    rw [hE]
    exact Or.inl ⟨hE0, rfl, hB2.trans ((show Below x2.heap.size x2 _ from belA).mono hB2.size)⟩
end Go.Proofs.Ytjkhjjmmkdfjmaa
