import Derived.Test.YtjkhjjmmkdfjmaaMASame6
import Derived.Test.YtjkhjjmmkdfjmaaMACont
import Derived.Outline
namespace Go.Proofs.Ytjkhjjmmkdfjmaa
open Go.ChangeShapes Go.WideShapes Go.ChangeAt Go.RowKit
set_option linter.unusedVariables false
set_option linter.unusedSimpArgs false
attribute [local go_sem ↓] Go.wp_at_zero Go.wp_at_succ
set_option maxHeartbeats 8000000 in
set_option maxRecDepth 100000 in
theorem mixAdds_walk (L : List Ve) (A : Option Addr) (cap n : Nat) (X : List Fl) (fA : Option Addr) (fcap m : Nat) (x : Fl) (w : World) (hlen : Hid (n = L.length)) (hm : Hid (m = X.length)) (hl : n ≤ 9223372036854775807) (hml : m ≤ 9223372036854775807) (hL : Hid (SlRows veV 3 w A L)) (hX : Hid (SlRows flV 8 w fA X)) (cA : A = none → cap = 0) (cF : fA = none → fcap = 0) (hcap : n ≤ cap) (hcm : (cap : Int) ≤ 9223372036854775807) (hfr : x.fr.size ≤ 9223372036854775807) (htz : x.tz.size ≤ 9223372036854775807) :
    Calls Try.prog 4 #[.slice A n cap, .slice fA m fcap, .agg #[.int .i64 x.k, .int .i64 x.d, .string x.fr, .string x.tz, .int .i64 x.o, .int .i64 x.h, .int .i64 x.am, .bool x.pu]] w fun e w' => e = .returned (.bool true) ∧ Below w.heap.size w w' := by
  have HL : Hid (∀ x, Below w.heap.size w x → SlRows veV 3 x A L) := Lib.hid fun x hx => hL.out.below hx
  have HX : Hid (∀ x, Below w.heap.size w x → SlRows flV 8 x fA X) := Lib.hid fun x hx => hX.out.below hx
  obtain ⟨w0, hw0⟩ : ∃ w0, w0 = w.alloc (.cells #[.int .i64 x.k, .int .i64 x.d, .string x.fr, .string x.tz, .int .i64 x.o, .int .i64 x.h, .int .i64 x.am, .bool x.pu] 38) := ⟨_, rfl⟩
  have hB0 : Below w.heap.size w w0 := by rw [hw0]; exact (Below.refl _ _).alloc (Nat.le_refl _) _
  have hz0 : w0.heap.size = w.heap.size + 1 := by rw [hw0]; simp
  have hx0 : RowsAt flV 8 w0 w.heap.size 0 [x] := by rw [hw0]; exact rows1_new w x _
  have hX9 : Hid (∀ u, Below w0.heap.size w0 u → RowsAt flV 8 u w.heap.size 0 [x]) := Lib.hid fun u hu => hx0.below hu (by omega)
  go_enter Try.func4, Try.ntmps4
  go_wp2_with fail
  rw [← hw0]
  refine (fawake_any w0).mono ?_
  rintro e x1 ⟨rfl, hb1⟩
  have hC1 : Below w0.heap.size w0 x1 := hb1
  have hB1 : Below w.heap.size w x1 := hB0.trans (hC1.mono hB0.size)
  clear hb1
  go_wp2_with fail
  refine (Short_any L A cap n X fA fcap m _ hlen hl (Lib.hid (HL.out _ hB1)) hm hml (Lib.hid (HX.out _ hB1))).mono ?_
  rintro e x2 ⟨hsh, hb2⟩
  have hC2 : Below w0.heap.size w0 x2 := hC1.trans (hb2.mono hC1.size)
  have hB2 : Below w.heap.size w x2 := hB0.trans (hC2.mono hB0.size)
  have zu2 := hC2.size
  clear hb2 hB1 hC1
  have hx2 := hX9.out _ hC2
  have hxc := fl_at hx2 (k := 0) (by simp)
  simp only [Nat.zero_mul, Nat.zero_add, List.getElem_cons_zero] at hxc
  obtain ⟨q0, q1, q2, q3, q4, q5, q6, q7⟩ := hxc
  rcases hsh with rfl | ⟨rfl, hsh⟩
  · go_wp2
    go_ret
    exact ⟨rfl, hB2⟩
  obtain ⟨hs1, hs2, hs3, hs4⟩ := hsh
  have n22 : n ≤ 22 := by have := hlen.out; omega
  have m202 : m ≤ 202 := by have := hm.out; omega
  have hsz : Hid (∀ g ∈ L, g.nm.size ≤ 1000000) := Lib.hid fun g hg => by have := hs1 g hg; omega
  clear hs1 hs2 hs3 hs4
  have z1 := Lib.hid hfr
  have z2 := Lib.hid htz
  by_cases hf20 : 20 < x.fr.size
  · have f1 : (20 : Int) < (x.fr.size : Int) := by omega
    go_wp2
    go_ret
    exact ⟨rfl, hB2⟩
  have f1 : ¬ (20 : Int) < (x.fr.size : Int) := by omega
  by_cases ht20 : 20 < x.tz.size
  · have f2 : (20 : Int) < (x.tz.size : Int) := by omega
    go_wp2
    go_ret
    exact ⟨rfl, hB2⟩
  have f2 : ¬ (20 : Int) < (x.tz.size : Int) := by omega
  obtain ⟨E, hE⟩ : ∃ E, Hid (addE L X x = E) := ⟨_, Lib.hid rfl⟩
  go_upto_region 5 with (fail)
  clear q0 q1 q2 q3 q4 q5 q6 q7
  refine wp_region_held_drew (S := (fun w' => RowsAt flV 8 w' w.heap.size 0 [x])) (by kernel_rfl) (hx2.below ((Below.refl x2.heap.size x2).drew) (by omega)) (fun hHeld => ?_)
  have hCd : Below w0.heap.size w0 x2.drew := hC2.drew
  refine tkA 0 30 rfl ?_
  refine tkA 2 32 rfl ?_
  refine tkH 4 ⟨some 34, _, _, _, _, _⟩ ?_ rfl ?_ (by assumption) ?_
  rotate_left
  · intro wy hSw
    have hxc := fl_at hSw (k := 0) (by simp)
    simp only [Nat.zero_mul, Nat.zero_add, List.getElem_cons_zero] at hxc
    obtain ⟨q0, q1, q2, q3, q4, q5, q6, q7⟩ := hxc
    go_simp
    all_goals with_reducible rfl
  try simp only [Act.put, sA, sB, sC]
  refine wpAnyH_ready (rs := [1]) (by kernel_rfl) (by simp) ?_
  refine AllReadyH.cons rfl (fun K hK => ?_) AllReadyH.nil
  go_simp
  refine (copyVe_n L A cap n _ hlen (by omega) cA (HL.out _ (hB0.trans (hCd.mono hB0.size)))).mono ?_
  rintro e x3 ⟨A1, c1, rfl, hs1, hb3⟩
  have hC3 : Below w0.heap.size w0 x3 := hCd.trans (hb3.mono hCd.size)
  have HV := Lib.hid hs1
  clear hs1 hb3
  go_wp2_with fail
  refine hK.out _ _ (hX9.out _ hC3) (fun hHeld => ?_)
  clear hK K
  try simp only [Act.put, sA, sB, sC]
  refine wpAnyH_ready (rs := [3]) (by kernel_rfl) (by simp) ?_
  refine AllReadyH.cons rfl (fun K hK => ?_) AllReadyH.nil
  go_simp
  obtain rfl := hm.out
  refine (copyFl_anyC X fA fcap _ (by omega) cF (HX.out _ (hB0.trans (hC3.mono hB0.size)))).mono ?_
  rintro e x4 ⟨B1, d1, rfl, ht1, cB, hb4⟩
  have hC4 : Below w0.heap.size w0 x4 := hC3.trans (hb4.mono hC3.size)
  replace HV := Lib.hid (HV.out.below (hb4.mono (Nat.le_refl _)))
  have HF := Lib.hid ht1
  clear ht1 hb4
  go_wp2_with fail
  refine hK.out _ _ (hX9.out _ hC4) (fun hHeld => ?_)
  clear hK K
  try simp only [Act.put, sA, sB, sC]
  refine wpAnyH_ready (rs := [5]) (by kernel_rfl) (by simp) ?_
  refine AllReadyH.cons rfl (fun K hK => ?_) AllReadyH.nil
  go_simp
  refine (AddFill_any L A1 c1 n X B1 d1 X.length x _ hlen (by omega) hsz HV (Lib.hid rfl) cB HF).mono ?_
  rintro e x5 hadd
  unfold AddedFl at hadd
  rw [hE.out] at hadd
  rcases hadd with ⟨hE0, rfl, hb5⟩ | ⟨hE0, A5, n5, c5, rfl, hn5, _, _, hs5, hb5⟩
  · have hC5 : Below w0.heap.size w0 x5 := hC4.trans (hb5.mono hC4.size)
    clear hb5
    go_wp2_with fail
    refine hK.out _ _ (hX9.out _ hC5) (fun hHeld => ?_)
    clear hK K
    try simp only [Act.put, sA, sB, sC]
    refine tkA 6 29 rfl ?_
    refine tkA 7 36 rfl ?_
    refine tkA 8 37 rfl ?_
    refine tkA 9 7 rfl ?_
    refine tkA 10 8 rfl ?_
    refine wpAnyH_done (by kernel_rfl) ?_ _
    have hx5 := hX9.out _ hC5
    have hxc := fl_at hx5 (k := 0) (by simp)
    simp only [Nat.zero_mul, Nat.zero_add, List.getElem_cons_zero] at hxc
    obtain ⟨q0, q1, q2, q3, q4, q5, q6, q7⟩ := hxc
    clear hHeld
    go_wp2_with fail
    refine (refAddFill_any L A cap n X fA fcap X.length x _ hlen hcap hcm hsz (Lib.hid (HL.out _ (hB0.trans (hC5.mono hB0.size)))) (Lib.hid rfl) cF (Lib.hid (HX.out _ (hB0.trans (hC5.mono hB0.size))))).mono ?_
    rintro e x6 href
    clear q0 q1 q2 q3 q4 q5 q6 q7
    unfold AddedFl at href
    rw [hE.out] at href
    rcases href with ⟨_, rfl, hb6⟩ | ⟨h, _⟩
    · have hC6 : Below w0.heap.size w0 x6 := hC5.trans (hb6.mono hC5.size)
      clear hb6
      have HBZ := Lib.hid hC6
      go_wp2_with fail
      refine (SameFills_eq [] none none 0 0 0 _ (Lib.hid rfl) (by omega) (Lib.hid (Or.inl rfl)) (Lib.hid (Or.inl rfl))).mono ?_
      rintro e x7 ⟨rfl, hb7⟩
      have hC7 : Below w0.heap.size w0 x7 := HBZ.out.trans (hb7.mono HBZ.out.size)
      go_wp2
      go_ret
      exact ⟨rfl, (hB0.trans (hC7.mono hB0.size))⟩
    · exact absurd h hE0
  · subst hE0
    have hC5 : Below w0.heap.size w0 x5 := hC4.trans (hb5.mono hC4.size)
    clear hb5
    go_wp2_with fail
    refine hK.out _ _ (hX9.out _ hC5) (fun hHeld => ?_)
    clear hK K
    try simp only [Act.put, sA, sB, sC]
    refine tkA 6 29 rfl ?_
    refine tkA 7 36 rfl ?_
    refine tkA 8 37 rfl ?_
    refine tkA 9 7 rfl ?_
    refine tkA 10 8 rfl ?_
    refine wpAnyH_done (by kernel_rfl) ?_ _
    have hx5 := hX9.out _ hC5
    have hxc := fl_at hx5 (k := 0) (by simp)
    simp only [Nat.zero_mul, Nat.zero_add, List.getElem_cons_zero] at hxc
    obtain ⟨q0, q1, q2, q3, q4, q5, q6, q7⟩ := hxc
    clear hHeld
    go_wp2_with fail
    refine (refAddFill_any L A cap n X fA fcap X.length x _ hlen hcap hcm hsz (Lib.hid (HL.out _ (hB0.trans (hC5.mono hB0.size)))) (Lib.hid rfl) cF (Lib.hid (HX.out _ (hB0.trans (hC5.mono hB0.size))))).mono ?_
    rintro e x6 href
    clear q0 q1 q2 q3 q4 q5 q6 q7
    unfold AddedFl at href
    rw [hE.out] at href
    rcases href with ⟨h, _⟩ | ⟨_, A6, n6, c6, rfl, hn6, _, _, hs6, hb6⟩
    · exact absurd rfl h
    have hC6 : Below w0.heap.size w0 x6 := hC5.trans (hb6.mono hC5.size)
    have hs56 := Lib.hid (hs5.out.below hb6)
    have e56 : n6 = n5 := hn6.out.trans hn5.out.symm
    subst e56
    have l5 : n6 ≤ 300 := by have := hn6.out; simp at this; omega
    clear hb6 hs5
    have HBZ := Lib.hid hC6
    go_wp2_with fail
    refine (SameFills_eq (X ++ [x]) A5 A6 c5 c6 n6 _ hn6 (by omega) hs56 hs6).mono ?_
    rintro e x7 ⟨rfl, hb7⟩
    have hC7 : Below w0.heap.size w0 x7 := HBZ.out.trans (hb7.mono HBZ.out.size)
    go_wp2
    go_ret
    exact ⟨rfl, (hB0.trans (hC7.mono hB0.size))⟩
theorem mixAdds_any (L : List Ve) (A : Option Addr) (cap : Nat) (X : List Fl) (fA : Option Addr) (fcap : Nat) (k d : Int) (fr tz : ByteArray) (o h am : Int) (pu : Bool) (w : World) (hl : L.length ≤ 9223372036854775807) (cA : A = none → cap = 0) (hL : SlRows veV 3 w A L) (hcap : L.length ≤ cap) (hcm : cap ≤ maxLen) (hml : X.length ≤ 9223372036854775807) (cF : fA = none → fcap = 0) (hX : SlRows flV 8 w fA X) (_ : X.length ≤ fcap) (_ : fcap ≤ maxLen) (hfr : fr.size ≤ 9223372036854775807) (htz : tz.size ≤ 9223372036854775807) :
    Calls Try.prog 4 #[.slice A L.length cap, .slice fA X.length fcap, .agg #[.int .i64 k, .int .i64 d, .string fr, .string tz, .int .i64 o, .int .i64 h, .int .i64 am, .bool pu]] w fun e w' => e = .returned (.bool true) ∧ Below w.heap.size w w' :=
  mixAdds_walk L A cap _ X fA fcap _ ⟨k, d, fr, tz, o, h, am, pu⟩ w (Lib.hid rfl) (Lib.hid rfl) hl hml (Lib.hid hL) (Lib.hid hX) cA cF hcap (by unfold maxLen at hcm; omega) hfr htz
end Go.Proofs.Ytjkhjjmmkdfjmaa
