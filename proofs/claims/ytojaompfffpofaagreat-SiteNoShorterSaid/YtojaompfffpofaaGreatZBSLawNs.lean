import Derived.Test.YtojaompfffpofaaGreatZBSWayM
import Derived.Test.YtojaompfffpofaaGreatZBSWnC
import Derived.Test.YtojaompfffpofaaGreatZBSLawRn
import Derived.Outline
namespace Go.Proofs.YtojaompfffpofaaGreat
open Go.ChangeShapes Go.WideShapes Go.ChangeAt Go.RowKit
set_option linter.unusedVariables false
set_option linter.unusedSimpArgs false
attribute [local go_sem ↓] Go.wp_at_zero Go.wp_at_succ
theorem bw_is (n a b : Int) (x : Bool) (w : World) (hb : Hid (inB n a b = x)) : Calls Tryz.prog 23 #[.int .i64 n, .int .i64 a, .int .i64 b] w fun e w' => e = .returned (.bool x) ∧ w = w' := by
  rw [← hb.out]; exact baseWithin_any n a b w
theorem take_snocW {M : List (List Int)} {Q : List Int} {q : Nat} (h : q + 1 < Q.length) : wSum M (Q.take (q + 1 + 1)) = wSum M (Q.take (q + 1)) + stp M (Q.getD q 0) (Q.getD (q + 1) 0) ∧ (wOk M (Q.take (q + 1 + 1)) ↔ wOk M (Q.take (q + 1)) ∧ 0 ≤ stp M (Q.getD q 0) (Q.getD (q + 1) 0)) := by
  have e1 : Q.take (q + 1) = Q.take q ++ [Q.getD q 0] := by rw [getD_at (show q < Q.length by omega)]; simp [List.take_append_getElem]
  have e2 : Q.take (q + 1 + 1) = Q.take q ++ Q.getD q 0 :: [Q.getD (q + 1) 0] := by
    rw [← List.take_append_getElem h, e1, getD_at h]; simp
  rw [e2, wSum_app, wOk_app, ← e1]
  refine ⟨by simp [wSum], ?_⟩
  simp only [wOk, and_true]
set_option maxRecDepth 100000 in
set_option maxHeartbeats 4000000 in
theorem ns_flat (A B V : Option Addr) (n m ca cb L cv : Nat) (Pl : List ByteArray) (M : List (List Int)) (Q : List Int) (w : World) (hn : Hid (n = Pl.length)) (hm : Hid (m = M.length)) (hq : Hid (L = Q.length)) (hsz : Hid (∀ s ∈ Pl, s.size ≤ 9223372036854775807)) (hrl : Hid (∀ k, k < m → (M.getD k []).length ≤ 9223372036854775807)) (HP0 : Hid (SlRows strV 1 w A Pl)) (HM0 : Hid (SlMatC w B M)) (HQ0 : Hid (SlRows intV 1 w V Q)) (hF : Hid (flatB Pl M = false)) :
    Calls Tryz.prog 8 #[.agg #[.slice A n ca, .slice B m cb], .slice V L cv] w fun e w' => e = .returned (.bool true) ∧ Below w.heap.size w w' := by
  go_enter Tryz.func8, Tryz.ntmps8
  go_upto_region 1 with (fail)
  refine wp_world (ChS A B n m ca cb w) ⟨by simp [go_sem, World.cell?_alloc_past], by simp [go_sem, World.cell?_alloc_past], (by (repeat (first | (with_reducible refine Below.drew ?_) | (with_reducible refine below_drewN ?_ _) | (with_reducible refine Below.alloc ?_ (by first | omega | (simp; done) | (simp; omega) | (simp at *; omega)) _) | (with_reducible refine Below.setCell ?_ (by first | omega | (simp; done) | (simp; omega) | (simp at *; omega)) _) | (with_reducible exact Below.refl _ _) | (with_reducible assumption) | (with_reducible refine Below.trans ?_ (Below.mono (by assumption) (by first | omega | (simp; done) | (simp; omega) | (simp at *; omega))))))), by simp⟩ (fun u hu => ?_)
  have HU := Lib.hid hu
  have HS : Hid (∀ x, Below u.heap.size u x → ChS A B n m ca cb w x) := Lib.hid fun x hx => HU.out.below hx
  have HP : Hid (∀ x, Below u.heap.size u x → SlRows strV 1 x A Pl) := Lib.hid fun x hx => HP0.out.below (HU.out.below hx).be
  have HM : Hid (∀ x, Below u.heap.size u x → SlMatC x B M) := Lib.hid fun x hx => HM0.out.below (HU.out.below hx).be
  obtain ⟨c0, c1, hBe, hlt⟩ := hu
  go_wp2_with fail
  refine (awake_any _).mono ?_
  rintro e x1 ⟨rfl, hb1⟩
  have zz1 := hb1.size
  try simp at zz1
  have hc1 : Below u.heap.size u x1 := (by (repeat (first | (with_reducible refine Below.drew ?_) | (with_reducible refine below_drewN ?_ _) | (with_reducible refine Below.alloc ?_ (by first | omega | (simp; done) | (simp; omega) | (simp at *; omega)) _) | (with_reducible refine Below.setCell ?_ (by first | omega | (simp; done) | (simp; omega) | (simp at *; omega)) _) | (with_reducible exact Below.refl _ _) | (with_reducible assumption) | (with_reducible refine Below.trans ?_ (Below.mono (by assumption) (by first | omega | (simp; done) | (simp; omega) | (simp at *; omega)))))))
  have hB1 : Below u.heap.size u x1 := hc1
  have zu1 := hB1.size
  clear hb1 c0 c1 hBe hlt
  obtain ⟨c0, c1, hBe, hlt⟩ := HS.out _ hB1
  go_wp2_with fail
  refine (flat_any A B n m ca cb Pl M false _ hn hm hsz hrl (Lib.hid (HP.out _ (by (repeat (first | (with_reducible refine Below.drew ?_) | (with_reducible refine below_drewN ?_ _) | (with_reducible refine Below.alloc ?_ (by first | omega | (simp; done) | (simp; omega) | (simp at *; omega)) _) | (with_reducible refine Below.setCell ?_ (by first | omega | (simp; done) | (simp; omega) | (simp at *; omega)) _) | (with_reducible exact Below.refl _ _) | (with_reducible assumption) | (with_reducible refine Below.trans ?_ (Below.mono (by assumption) (by first | omega | (simp; done) | (simp; omega) | (simp at *; omega))))))))) (Lib.hid (HM.out _ (by (repeat (first | (with_reducible refine Below.drew ?_) | (with_reducible refine below_drewN ?_ _) | (with_reducible refine Below.alloc ?_ (by first | omega | (simp; done) | (simp; omega) | (simp at *; omega)) _) | (with_reducible refine Below.setCell ?_ (by first | omega | (simp; done) | (simp; omega) | (simp at *; omega)) _) | (with_reducible exact Below.refl _ _) | (with_reducible assumption) | (with_reducible refine Below.trans ?_ (Below.mono (by assumption) (by first | omega | (simp; done) | (simp; omega) | (simp at *; omega)))))))).mat) hF).mono ?_
  rintro e x2 ⟨rfl, hb2⟩
  have zz2 := hb2.size
  try simp at zz2
  have hc2 : Below x1.heap.size x1 x2 := (by (repeat (first | (with_reducible refine Below.drew ?_) | (with_reducible refine below_drewN ?_ _) | (with_reducible refine Below.alloc ?_ (by first | omega | (simp; done) | (simp; omega) | (simp at *; omega)) _) | (with_reducible refine Below.setCell ?_ (by first | omega | (simp; done) | (simp; omega) | (simp at *; omega)) _) | (with_reducible exact Below.refl _ _) | (with_reducible assumption) | (with_reducible refine Below.trans ?_ (Below.mono (by assumption) (by first | omega | (simp; done) | (simp; omega) | (simp at *; omega)))))))
  have hB2 : Below u.heap.size u x2 := hB1.trans (hc2.mono hB1.size)
  have zu2 := hB2.size
  clear hb2 hB1 zz1 zu1 hc1 c0 c1 hBe hlt
  obtain ⟨c0, c1, hBe, hlt⟩ := HS.out _ hB2
  go_wp2
  go_ret
  exact ⟨rfl, hBe⟩
set_option maxRecDepth 100000 in
set_option maxHeartbeats 4000000 in
theorem ns_chart (A B V : Option Addr) (n m ca cb L cv : Nat) (Pl : List ByteArray) (M : List (List Int)) (Q : List Int) (w : World) (hn : Hid (n = Pl.length)) (hm : Hid (m = M.length)) (hq : Hid (L = Q.length)) (hsz : Hid (∀ s ∈ Pl, s.size ≤ 9223372036854775807)) (hrl : Hid (∀ k, k < m → (M.getD k []).length ≤ 9223372036854775807)) (HP0 : Hid (SlRows strV 1 w A Pl)) (HM0 : Hid (SlMatC w B M)) (HQ0 : Hid (SlRows intV 1 w V Q)) (hF : Hid (flatB Pl M = true)) (hl : n ≤ 14) (hm14 : m ≤ 14) (hcap : n ≤ ca) (hs6 : Hid (∀ s ∈ Pl, s.size ≤ 1000000)) (E : Int) (hCE : Hid (chtE Pl M = E)) (hz : (E != 0) = true) :
    Calls Tryz.prog 8 #[.agg #[.slice A n ca, .slice B m cb], .slice V L cv] w fun e w' => e = .returned (.bool true) ∧ Below w.heap.size w w' := by
  have iz : ¬ E = 0 := by simpa using hz
  go_enter Tryz.func8, Tryz.ntmps8
  go_upto_region 1 with (fail)
  refine wp_world (ChS A B n m ca cb w) ⟨by simp [go_sem, World.cell?_alloc_past], by simp [go_sem, World.cell?_alloc_past], (by (repeat (first | (with_reducible refine Below.drew ?_) | (with_reducible refine below_drewN ?_ _) | (with_reducible refine Below.alloc ?_ (by first | omega | (simp; done) | (simp; omega) | (simp at *; omega)) _) | (with_reducible refine Below.setCell ?_ (by first | omega | (simp; done) | (simp; omega) | (simp at *; omega)) _) | (with_reducible exact Below.refl _ _) | (with_reducible assumption) | (with_reducible refine Below.trans ?_ (Below.mono (by assumption) (by first | omega | (simp; done) | (simp; omega) | (simp at *; omega))))))), by simp⟩ (fun u hu => ?_)
  have HU := Lib.hid hu
  have HS : Hid (∀ x, Below u.heap.size u x → ChS A B n m ca cb w x) := Lib.hid fun x hx => HU.out.below hx
  have HP : Hid (∀ x, Below u.heap.size u x → SlRows strV 1 x A Pl) := Lib.hid fun x hx => HP0.out.below (HU.out.below hx).be
  have HM : Hid (∀ x, Below u.heap.size u x → SlMatC x B M) := Lib.hid fun x hx => HM0.out.below (HU.out.below hx).be
  obtain ⟨c0, c1, hBe, hlt⟩ := hu
  go_wp2_with fail
  refine (awake_any _).mono ?_
  rintro e x1 ⟨rfl, hb1⟩
  have zz1 := hb1.size
  try simp at zz1
  have hc1 : Below u.heap.size u x1 := (by (repeat (first | (with_reducible refine Below.drew ?_) | (with_reducible refine below_drewN ?_ _) | (with_reducible refine Below.alloc ?_ (by first | omega | (simp; done) | (simp; omega) | (simp at *; omega)) _) | (with_reducible refine Below.setCell ?_ (by first | omega | (simp; done) | (simp; omega) | (simp at *; omega)) _) | (with_reducible exact Below.refl _ _) | (with_reducible assumption) | (with_reducible refine Below.trans ?_ (Below.mono (by assumption) (by first | omega | (simp; done) | (simp; omega) | (simp at *; omega)))))))
  have hB1 : Below u.heap.size u x1 := hc1
  have zu1 := hB1.size
  clear hb1 c0 c1 hBe hlt
  obtain ⟨c0, c1, hBe, hlt⟩ := HS.out _ hB1
  go_wp2_with fail
  refine (flat_any A B n m ca cb Pl M true _ hn hm hsz hrl (Lib.hid (HP.out _ (by (repeat (first | (with_reducible refine Below.drew ?_) | (with_reducible refine below_drewN ?_ _) | (with_reducible refine Below.alloc ?_ (by first | omega | (simp; done) | (simp; omega) | (simp at *; omega)) _) | (with_reducible refine Below.setCell ?_ (by first | omega | (simp; done) | (simp; omega) | (simp at *; omega)) _) | (with_reducible exact Below.refl _ _) | (with_reducible assumption) | (with_reducible refine Below.trans ?_ (Below.mono (by assumption) (by first | omega | (simp; done) | (simp; omega) | (simp at *; omega))))))))) (Lib.hid (HM.out _ (by (repeat (first | (with_reducible refine Below.drew ?_) | (with_reducible refine below_drewN ?_ _) | (with_reducible refine Below.alloc ?_ (by first | omega | (simp; done) | (simp; omega) | (simp at *; omega)) _) | (with_reducible refine Below.setCell ?_ (by first | omega | (simp; done) | (simp; omega) | (simp at *; omega)) _) | (with_reducible exact Below.refl _ _) | (with_reducible assumption) | (with_reducible refine Below.trans ?_ (Below.mono (by assumption) (by first | omega | (simp; done) | (simp; omega) | (simp at *; omega)))))))).mat) hF).mono ?_
  rintro e x2 ⟨rfl, hb2⟩
  have zz2 := hb2.size
  try simp at zz2
  have hc2 : Below x1.heap.size x1 x2 := (by (repeat (first | (with_reducible refine Below.drew ?_) | (with_reducible refine below_drewN ?_ _) | (with_reducible refine Below.alloc ?_ (by first | omega | (simp; done) | (simp; omega) | (simp at *; omega)) _) | (with_reducible refine Below.setCell ?_ (by first | omega | (simp; done) | (simp; omega) | (simp at *; omega)) _) | (with_reducible exact Below.refl _ _) | (with_reducible assumption) | (with_reducible refine Below.trans ?_ (Below.mono (by assumption) (by first | omega | (simp; done) | (simp; omega) | (simp at *; omega)))))))
  have hB2 : Below u.heap.size u x2 := hB1.trans (hc2.mono hB1.size)
  have zu2 := hB2.size
  clear hb2 hB1 zz1 zu1 hc1 c0 c1 hBe hlt
  obtain ⟨c0, c1, hBe, hlt⟩ := HS.out _ hB2
  go_wp2_with fail
  refine (refChart_any A B n m ca cb Pl M E _ hn hm (by omega) (by omega) (.inl hcap) hs6 (Lib.hid (HP.out _ (by (repeat (first | (with_reducible refine Below.drew ?_) | (with_reducible refine below_drewN ?_ _) | (with_reducible refine Below.alloc ?_ (by first | omega | (simp; done) | (simp; omega) | (simp at *; omega)) _) | (with_reducible refine Below.setCell ?_ (by first | omega | (simp; done) | (simp; omega) | (simp at *; omega)) _) | (with_reducible exact Below.refl _ _) | (with_reducible assumption) | (with_reducible refine Below.trans ?_ (Below.mono (by assumption) (by first | omega | (simp; done) | (simp; omega) | (simp at *; omega))))))))) (Lib.hid (HM.out _ (by (repeat (first | (with_reducible refine Below.drew ?_) | (with_reducible refine below_drewN ?_ _) | (with_reducible refine Below.alloc ?_ (by first | omega | (simp; done) | (simp; omega) | (simp at *; omega)) _) | (with_reducible refine Below.setCell ?_ (by first | omega | (simp; done) | (simp; omega) | (simp at *; omega)) _) | (with_reducible exact Below.refl _ _) | (with_reducible assumption) | (with_reducible refine Below.trans ?_ (Below.mono (by assumption) (by first | omega | (simp; done) | (simp; omega) | (simp at *; omega)))))))).mat) hCE).mono ?_
  rintro e x3 ⟨rfl, hb3⟩
  have zz3 := hb3.size
  try simp at zz3
  have hc3 : Below x2.heap.size x2 x3 := (by (repeat (first | (with_reducible refine Below.drew ?_) | (with_reducible refine below_drewN ?_ _) | (with_reducible refine Below.alloc ?_ (by first | omega | (simp; done) | (simp; omega) | (simp at *; omega)) _) | (with_reducible refine Below.setCell ?_ (by first | omega | (simp; done) | (simp; omega) | (simp at *; omega)) _) | (with_reducible exact Below.refl _ _) | (with_reducible assumption) | (with_reducible refine Below.trans ?_ (Below.mono (by assumption) (by first | omega | (simp; done) | (simp; omega) | (simp at *; omega)))))))
  have hB3 : Below u.heap.size u x3 := hB2.trans (hc3.mono hB2.size)
  have zu3 := hB3.size
  clear hb3 hB2 zz2 zu2 hc2 c0 c1 hBe hlt
  obtain ⟨c0, c1, hBe, hlt⟩ := HS.out _ hB3
  go_wp2
  go_ret
  exact ⟨rfl, hBe⟩
set_option maxRecDepth 100000 in
set_option maxHeartbeats 4000000 in
theorem ns_len0 (A B V : Option Addr) (n m ca cb L cv : Nat) (Pl : List ByteArray) (M : List (List Int)) (Q : List Int) (w : World) (hn : Hid (n = Pl.length)) (hm : Hid (m = M.length)) (hq : Hid (L = Q.length)) (hsz : Hid (∀ s ∈ Pl, s.size ≤ 9223372036854775807)) (hrl : Hid (∀ k, k < m → (M.getD k []).length ≤ 9223372036854775807)) (HP0 : Hid (SlRows strV 1 w A Pl)) (HM0 : Hid (SlMatC w B M)) (HQ0 : Hid (SlRows intV 1 w V Q)) (hF : Hid (flatB Pl M = true)) (hl : n ≤ 14) (hm14 : m ≤ 14) (hcap : n ≤ ca) (hs6 : Hid (∀ s ∈ Pl, s.size ≤ 1000000)) (hC0 : Hid (chtE Pl M = 0)) (h0 : L = 0) :
    Calls Tryz.prog 8 #[.agg #[.slice A n ca, .slice B m cb], .slice V L cv] w fun e w' => e = .returned (.bool true) ∧ Below w.heap.size w w' := by
  have i0 : (L : Int) = 0 := by omega
  go_enter Tryz.func8, Tryz.ntmps8
  go_upto_region 1 with (fail)
  refine wp_world (ChS A B n m ca cb w) ⟨by simp [go_sem, World.cell?_alloc_past], by simp [go_sem, World.cell?_alloc_past], (by (repeat (first | (with_reducible refine Below.drew ?_) | (with_reducible refine below_drewN ?_ _) | (with_reducible refine Below.alloc ?_ (by first | omega | (simp; done) | (simp; omega) | (simp at *; omega)) _) | (with_reducible refine Below.setCell ?_ (by first | omega | (simp; done) | (simp; omega) | (simp at *; omega)) _) | (with_reducible exact Below.refl _ _) | (with_reducible assumption) | (with_reducible refine Below.trans ?_ (Below.mono (by assumption) (by first | omega | (simp; done) | (simp; omega) | (simp at *; omega))))))), by simp⟩ (fun u hu => ?_)
  have HU := Lib.hid hu
  have HS : Hid (∀ x, Below u.heap.size u x → ChS A B n m ca cb w x) := Lib.hid fun x hx => HU.out.below hx
  have HP : Hid (∀ x, Below u.heap.size u x → SlRows strV 1 x A Pl) := Lib.hid fun x hx => HP0.out.below (HU.out.below hx).be
  have HM : Hid (∀ x, Below u.heap.size u x → SlMatC x B M) := Lib.hid fun x hx => HM0.out.below (HU.out.below hx).be
  obtain ⟨c0, c1, hBe, hlt⟩ := hu
  go_wp2_with fail
  refine (awake_any _).mono ?_
  rintro e x1 ⟨rfl, hb1⟩
  have zz1 := hb1.size
  try simp at zz1
  have hc1 : Below u.heap.size u x1 := (by (repeat (first | (with_reducible refine Below.drew ?_) | (with_reducible refine below_drewN ?_ _) | (with_reducible refine Below.alloc ?_ (by first | omega | (simp; done) | (simp; omega) | (simp at *; omega)) _) | (with_reducible refine Below.setCell ?_ (by first | omega | (simp; done) | (simp; omega) | (simp at *; omega)) _) | (with_reducible exact Below.refl _ _) | (with_reducible assumption) | (with_reducible refine Below.trans ?_ (Below.mono (by assumption) (by first | omega | (simp; done) | (simp; omega) | (simp at *; omega)))))))
  have hB1 : Below u.heap.size u x1 := hc1
  have zu1 := hB1.size
  clear hb1 c0 c1 hBe hlt
  obtain ⟨c0, c1, hBe, hlt⟩ := HS.out _ hB1
  go_wp2_with fail
  refine (flat_any A B n m ca cb Pl M true _ hn hm hsz hrl (Lib.hid (HP.out _ (by (repeat (first | (with_reducible refine Below.drew ?_) | (with_reducible refine below_drewN ?_ _) | (with_reducible refine Below.alloc ?_ (by first | omega | (simp; done) | (simp; omega) | (simp at *; omega)) _) | (with_reducible refine Below.setCell ?_ (by first | omega | (simp; done) | (simp; omega) | (simp at *; omega)) _) | (with_reducible exact Below.refl _ _) | (with_reducible assumption) | (with_reducible refine Below.trans ?_ (Below.mono (by assumption) (by first | omega | (simp; done) | (simp; omega) | (simp at *; omega))))))))) (Lib.hid (HM.out _ (by (repeat (first | (with_reducible refine Below.drew ?_) | (with_reducible refine below_drewN ?_ _) | (with_reducible refine Below.alloc ?_ (by first | omega | (simp; done) | (simp; omega) | (simp at *; omega)) _) | (with_reducible refine Below.setCell ?_ (by first | omega | (simp; done) | (simp; omega) | (simp at *; omega)) _) | (with_reducible exact Below.refl _ _) | (with_reducible assumption) | (with_reducible refine Below.trans ?_ (Below.mono (by assumption) (by first | omega | (simp; done) | (simp; omega) | (simp at *; omega)))))))).mat) hF).mono ?_
  rintro e x2 ⟨rfl, hb2⟩
  have zz2 := hb2.size
  try simp at zz2
  have hc2 : Below x1.heap.size x1 x2 := (by (repeat (first | (with_reducible refine Below.drew ?_) | (with_reducible refine below_drewN ?_ _) | (with_reducible refine Below.alloc ?_ (by first | omega | (simp; done) | (simp; omega) | (simp at *; omega)) _) | (with_reducible refine Below.setCell ?_ (by first | omega | (simp; done) | (simp; omega) | (simp at *; omega)) _) | (with_reducible exact Below.refl _ _) | (with_reducible assumption) | (with_reducible refine Below.trans ?_ (Below.mono (by assumption) (by first | omega | (simp; done) | (simp; omega) | (simp at *; omega)))))))
  have hB2 : Below u.heap.size u x2 := hB1.trans (hc2.mono hB1.size)
  have zu2 := hB2.size
  clear hb2 hB1 zz1 zu1 hc1 c0 c1 hBe hlt
  obtain ⟨c0, c1, hBe, hlt⟩ := HS.out _ hB2
  go_wp2_with fail
  refine (refChart_any A B n m ca cb Pl M 0 _ hn hm (by omega) (by omega) (.inl hcap) hs6 (Lib.hid (HP.out _ (by (repeat (first | (with_reducible refine Below.drew ?_) | (with_reducible refine below_drewN ?_ _) | (with_reducible refine Below.alloc ?_ (by first | omega | (simp; done) | (simp; omega) | (simp at *; omega)) _) | (with_reducible refine Below.setCell ?_ (by first | omega | (simp; done) | (simp; omega) | (simp at *; omega)) _) | (with_reducible exact Below.refl _ _) | (with_reducible assumption) | (with_reducible refine Below.trans ?_ (Below.mono (by assumption) (by first | omega | (simp; done) | (simp; omega) | (simp at *; omega))))))))) (Lib.hid (HM.out _ (by (repeat (first | (with_reducible refine Below.drew ?_) | (with_reducible refine below_drewN ?_ _) | (with_reducible refine Below.alloc ?_ (by first | omega | (simp; done) | (simp; omega) | (simp at *; omega)) _) | (with_reducible refine Below.setCell ?_ (by first | omega | (simp; done) | (simp; omega) | (simp at *; omega)) _) | (with_reducible exact Below.refl _ _) | (with_reducible assumption) | (with_reducible refine Below.trans ?_ (Below.mono (by assumption) (by first | omega | (simp; done) | (simp; omega) | (simp at *; omega)))))))).mat) hC0).mono ?_
  rintro e x3 ⟨rfl, hb3⟩
  have zz3 := hb3.size
  try simp at zz3
  have hc3 : Below x2.heap.size x2 x3 := (by (repeat (first | (with_reducible refine Below.drew ?_) | (with_reducible refine below_drewN ?_ _) | (with_reducible refine Below.alloc ?_ (by first | omega | (simp; done) | (simp; omega) | (simp at *; omega)) _) | (with_reducible refine Below.setCell ?_ (by first | omega | (simp; done) | (simp; omega) | (simp at *; omega)) _) | (with_reducible exact Below.refl _ _) | (with_reducible assumption) | (with_reducible refine Below.trans ?_ (Below.mono (by assumption) (by first | omega | (simp; done) | (simp; omega) | (simp at *; omega)))))))
  have hB3 : Below u.heap.size u x3 := hB2.trans (hc3.mono hB2.size)
  have zu3 := hB3.size
  clear hb3 hB2 zz2 zu2 hc2 c0 c1 hBe hlt
  obtain ⟨c0, c1, hBe, hlt⟩ := HS.out _ hB3
  go_wp2
  go_ret
  exact ⟨rfl, hBe⟩
set_option maxRecDepth 100000 in
set_option maxHeartbeats 4000000 in
theorem ns_len9 (A B V : Option Addr) (n m ca cb L cv : Nat) (Pl : List ByteArray) (M : List (List Int)) (Q : List Int) (w : World) (hn : Hid (n = Pl.length)) (hm : Hid (m = M.length)) (hq : Hid (L = Q.length)) (hsz : Hid (∀ s ∈ Pl, s.size ≤ 9223372036854775807)) (hrl : Hid (∀ k, k < m → (M.getD k []).length ≤ 9223372036854775807)) (HP0 : Hid (SlRows strV 1 w A Pl)) (HM0 : Hid (SlMatC w B M)) (HQ0 : Hid (SlRows intV 1 w V Q)) (hF : Hid (flatB Pl M = true)) (hl : n ≤ 14) (hm14 : m ≤ 14) (hcap : n ≤ ca) (hs6 : Hid (∀ s ∈ Pl, s.size ≤ 1000000)) (hC0 : Hid (chtE Pl M = 0)) (h0 : 8 < L) :
    Calls Tryz.prog 8 #[.agg #[.slice A n ca, .slice B m cb], .slice V L cv] w fun e w' => e = .returned (.bool true) ∧ Below w.heap.size w w' := by
  have i0 : ¬ (L : Int) = 0 := by omega
  have i8 : (8 : Int) < (L : Int) := by omega
  go_enter Tryz.func8, Tryz.ntmps8
  go_upto_region 1 with (fail)
  refine wp_world (ChS A B n m ca cb w) ⟨by simp [go_sem, World.cell?_alloc_past], by simp [go_sem, World.cell?_alloc_past], (by (repeat (first | (with_reducible refine Below.drew ?_) | (with_reducible refine below_drewN ?_ _) | (with_reducible refine Below.alloc ?_ (by first | omega | (simp; done) | (simp; omega) | (simp at *; omega)) _) | (with_reducible refine Below.setCell ?_ (by first | omega | (simp; done) | (simp; omega) | (simp at *; omega)) _) | (with_reducible exact Below.refl _ _) | (with_reducible assumption) | (with_reducible refine Below.trans ?_ (Below.mono (by assumption) (by first | omega | (simp; done) | (simp; omega) | (simp at *; omega))))))), by simp⟩ (fun u hu => ?_)
  have HU := Lib.hid hu
  have HS : Hid (∀ x, Below u.heap.size u x → ChS A B n m ca cb w x) := Lib.hid fun x hx => HU.out.below hx
  have HP : Hid (∀ x, Below u.heap.size u x → SlRows strV 1 x A Pl) := Lib.hid fun x hx => HP0.out.below (HU.out.below hx).be
  have HM : Hid (∀ x, Below u.heap.size u x → SlMatC x B M) := Lib.hid fun x hx => HM0.out.below (HU.out.below hx).be
  obtain ⟨c0, c1, hBe, hlt⟩ := hu
  go_wp2_with fail
  refine (awake_any _).mono ?_
  rintro e x1 ⟨rfl, hb1⟩
  have zz1 := hb1.size
  try simp at zz1
  have hc1 : Below u.heap.size u x1 := (by (repeat (first | (with_reducible refine Below.drew ?_) | (with_reducible refine below_drewN ?_ _) | (with_reducible refine Below.alloc ?_ (by first | omega | (simp; done) | (simp; omega) | (simp at *; omega)) _) | (with_reducible refine Below.setCell ?_ (by first | omega | (simp; done) | (simp; omega) | (simp at *; omega)) _) | (with_reducible exact Below.refl _ _) | (with_reducible assumption) | (with_reducible refine Below.trans ?_ (Below.mono (by assumption) (by first | omega | (simp; done) | (simp; omega) | (simp at *; omega)))))))
  have hB1 : Below u.heap.size u x1 := hc1
  have zu1 := hB1.size
  clear hb1 c0 c1 hBe hlt
  obtain ⟨c0, c1, hBe, hlt⟩ := HS.out _ hB1
  go_wp2_with fail
  refine (flat_any A B n m ca cb Pl M true _ hn hm hsz hrl (Lib.hid (HP.out _ (by (repeat (first | (with_reducible refine Below.drew ?_) | (with_reducible refine below_drewN ?_ _) | (with_reducible refine Below.alloc ?_ (by first | omega | (simp; done) | (simp; omega) | (simp at *; omega)) _) | (with_reducible refine Below.setCell ?_ (by first | omega | (simp; done) | (simp; omega) | (simp at *; omega)) _) | (with_reducible exact Below.refl _ _) | (with_reducible assumption) | (with_reducible refine Below.trans ?_ (Below.mono (by assumption) (by first | omega | (simp; done) | (simp; omega) | (simp at *; omega))))))))) (Lib.hid (HM.out _ (by (repeat (first | (with_reducible refine Below.drew ?_) | (with_reducible refine below_drewN ?_ _) | (with_reducible refine Below.alloc ?_ (by first | omega | (simp; done) | (simp; omega) | (simp at *; omega)) _) | (with_reducible refine Below.setCell ?_ (by first | omega | (simp; done) | (simp; omega) | (simp at *; omega)) _) | (with_reducible exact Below.refl _ _) | (with_reducible assumption) | (with_reducible refine Below.trans ?_ (Below.mono (by assumption) (by first | omega | (simp; done) | (simp; omega) | (simp at *; omega)))))))).mat) hF).mono ?_
  rintro e x2 ⟨rfl, hb2⟩
  have zz2 := hb2.size
  try simp at zz2
  have hc2 : Below x1.heap.size x1 x2 := (by (repeat (first | (with_reducible refine Below.drew ?_) | (with_reducible refine below_drewN ?_ _) | (with_reducible refine Below.alloc ?_ (by first | omega | (simp; done) | (simp; omega) | (simp at *; omega)) _) | (with_reducible refine Below.setCell ?_ (by first | omega | (simp; done) | (simp; omega) | (simp at *; omega)) _) | (with_reducible exact Below.refl _ _) | (with_reducible assumption) | (with_reducible refine Below.trans ?_ (Below.mono (by assumption) (by first | omega | (simp; done) | (simp; omega) | (simp at *; omega)))))))
  have hB2 : Below u.heap.size u x2 := hB1.trans (hc2.mono hB1.size)
  have zu2 := hB2.size
  clear hb2 hB1 zz1 zu1 hc1 c0 c1 hBe hlt
  obtain ⟨c0, c1, hBe, hlt⟩ := HS.out _ hB2
  go_wp2_with fail
  refine (refChart_any A B n m ca cb Pl M 0 _ hn hm (by omega) (by omega) (.inl hcap) hs6 (Lib.hid (HP.out _ (by (repeat (first | (with_reducible refine Below.drew ?_) | (with_reducible refine below_drewN ?_ _) | (with_reducible refine Below.alloc ?_ (by first | omega | (simp; done) | (simp; omega) | (simp at *; omega)) _) | (with_reducible refine Below.setCell ?_ (by first | omega | (simp; done) | (simp; omega) | (simp at *; omega)) _) | (with_reducible exact Below.refl _ _) | (with_reducible assumption) | (with_reducible refine Below.trans ?_ (Below.mono (by assumption) (by first | omega | (simp; done) | (simp; omega) | (simp at *; omega))))))))) (Lib.hid (HM.out _ (by (repeat (first | (with_reducible refine Below.drew ?_) | (with_reducible refine below_drewN ?_ _) | (with_reducible refine Below.alloc ?_ (by first | omega | (simp; done) | (simp; omega) | (simp at *; omega)) _) | (with_reducible refine Below.setCell ?_ (by first | omega | (simp; done) | (simp; omega) | (simp at *; omega)) _) | (with_reducible exact Below.refl _ _) | (with_reducible assumption) | (with_reducible refine Below.trans ?_ (Below.mono (by assumption) (by first | omega | (simp; done) | (simp; omega) | (simp at *; omega)))))))).mat) hC0).mono ?_
  rintro e x3 ⟨rfl, hb3⟩
  have zz3 := hb3.size
  try simp at zz3
  have hc3 : Below x2.heap.size x2 x3 := (by (repeat (first | (with_reducible refine Below.drew ?_) | (with_reducible refine below_drewN ?_ _) | (with_reducible refine Below.alloc ?_ (by first | omega | (simp; done) | (simp; omega) | (simp at *; omega)) _) | (with_reducible refine Below.setCell ?_ (by first | omega | (simp; done) | (simp; omega) | (simp at *; omega)) _) | (with_reducible exact Below.refl _ _) | (with_reducible assumption) | (with_reducible refine Below.trans ?_ (Below.mono (by assumption) (by first | omega | (simp; done) | (simp; omega) | (simp at *; omega)))))))
  have hB3 : Below u.heap.size u x3 := hB2.trans (hc3.mono hB2.size)
  have zu3 := hB3.size
  clear hb3 hB2 zz2 zu2 hc2 c0 c1 hBe hlt
  obtain ⟨c0, c1, hBe, hlt⟩ := HS.out _ hB3
  go_wp2
  go_ret
  exact ⟨rfl, hBe⟩
set_option maxRecDepth 100000 in
set_option maxHeartbeats 16000000 in
theorem ns_walk (A B V : Option Addr) (n ca cb L cv : Nat) (Pl : List ByteArray) (M : List (List Int)) (Q : List Int) (w : World) (hn : Hid (n = Pl.length)) (hm : Hid (n = M.length)) (hq : Hid (L = Q.length)) (hsz : Hid (∀ s ∈ Pl, s.size ≤ 9223372036854775807)) (hrl : Hid (∀ k, k < n → (M.getD k []).length ≤ 9223372036854775807)) (HP0 : Hid (SlRows strV 1 w A Pl)) (HM0 : Hid (SlMatC w B M)) (HQ0 : Hid (SlRows intV 1 w V Q)) (hF : Hid (flatB Pl M = true)) (hl : n ≤ 14) (hm14 : n ≤ 14) (hcap : n ≤ ca) (hs6 : Hid (∀ s ∈ Pl, s.size ≤ 1000000)) (hC0 : Hid (chtE Pl M = 0)) (hL1 : 0 < L) (hL8 : L ≤ 8) (hrs : Hid (∀ k, k < n → (M.getD k []).length ≤ 1000000)) (CA : Hid (A = none → n = 0 ∧ ca = 0)) :
    Calls Tryz.prog 8 #[.agg #[.slice A n ca, .slice B n cb], .slice V L cv] w fun e w' => e = .returned (.bool true) ∧ Below w.heap.size w w' := by
  have i0 : ¬ (L : Int) = 0 := by omega
  have j0 : ((L : Int) == 0) = false := by simpa using i0
  have j8 : decide ((8 : Int) < (L : Int)) = false := by simpa using (show (L : Int) ≤ 8 by omega)
  have i8 : ¬ (8 : Int) < (L : Int) := by omega
  have HOK := Lib.hid (chtE_ok hs6.out hC0.out)
  have n12 : n ≤ 12 := by rw [hn.out]; exact HOK.out.n12
  have w1 : IntKind.i64.wrap ((n : Int) - 1) = (n : Int) - 1 := IntWalk.i64_in _ (by omega)
  obtain ⟨vb, vo, eV, hvl, HR0⟩ : ∃ vb vo, V = some ⟨vb, vo, none⟩ ∧ vb < w.heap.size ∧ Hid (RowsAt intV 1 w vb vo Q) := by
    rcases HQ0.out with h | ⟨b, o, e1, e2, e3⟩
    · have := hq.out; rw [h] at this; simp at this; omega
    · exact ⟨b, o, e1, e2, Lib.hid e3⟩
  subst eV
  go_enter Tryz.func8, Tryz.ntmps8
  go_upto_region 1 with (fail)
  refine wp_world (ChS A B n n ca cb w) ⟨by simp [go_sem, World.cell?_alloc_past], by simp [go_sem, World.cell?_alloc_past], (by (repeat (first | (with_reducible refine Below.drew ?_) | (with_reducible refine below_drewN ?_ _) | (with_reducible refine Below.alloc ?_ (by first | omega | (simp; done) | (simp; omega) | (simp at *; omega)) _) | (with_reducible refine Below.setCell ?_ (by first | omega | (simp; done) | (simp; omega) | (simp at *; omega)) _) | (with_reducible exact Below.refl _ _) | (with_reducible assumption) | (with_reducible refine Below.trans ?_ (Below.mono (by assumption) (by first | omega | (simp; done) | (simp; omega) | (simp at *; omega))))))), by simp⟩ (fun u hu => ?_)
  have HU := Lib.hid hu
  have HS : Hid (∀ x, Below u.heap.size u x → ChS A B n n ca cb w x) := Lib.hid fun x hx => HU.out.below hx
  have HP : Hid (∀ x, Below u.heap.size u x → SlRows strV 1 x A Pl) := Lib.hid fun x hx => HP0.out.below (HU.out.below hx).be
  have HM : Hid (∀ x, Below u.heap.size u x → SlMatC x B M) := Lib.hid fun x hx => HM0.out.below (HU.out.below hx).be
  have HV : Hid (∀ x, Below u.heap.size u x → ∀ k, k < L → x.cell? ⟨vb, vo + k, none⟩ = some (.int .i64 (Q.getD k 0))) := Lib.hid fun x hx k hk => by
    have hkQ : k < Q.length := by have := hq.out; omega
    have := (HR0.out.below (HU.out.below hx).be hvl) k hkQ 0 (by omega)
    rw [Nat.mul_one, Nat.add_zero] at this; rw [this, getD_at hkQ]; rfl
  obtain ⟨c0, c1, hBe, hlt⟩ := hu
  go_wp2_with fail
  refine (awake_any _).mono ?_
  rintro e x1 ⟨rfl, hb1⟩
  have zz1 := hb1.size
  try simp at zz1
  have hc1 : Below u.heap.size u x1 := (by (repeat (first | (with_reducible refine Below.drew ?_) | (with_reducible refine below_drewN ?_ _) | (with_reducible refine Below.alloc ?_ (by first | omega | (simp; done) | (simp; omega) | (simp at *; omega)) _) | (with_reducible refine Below.setCell ?_ (by first | omega | (simp; done) | (simp; omega) | (simp at *; omega)) _) | (with_reducible exact Below.refl _ _) | (with_reducible assumption) | (with_reducible refine Below.trans ?_ (Below.mono (by assumption) (by first | omega | (simp; done) | (simp; omega) | (simp at *; omega)))))))
  have hB1 : Below u.heap.size u x1 := hc1
  have zu1 := hB1.size
  clear hb1 c0 c1 hBe hlt
  obtain ⟨c0, c1, hBe, hlt⟩ := HS.out _ hB1
  go_wp2_with fail
  refine (flat_any A B n n ca cb Pl M true _ hn hm hsz hrl (Lib.hid (HP.out _ (by (repeat (first | (with_reducible refine Below.drew ?_) | (with_reducible refine below_drewN ?_ _) | (with_reducible refine Below.alloc ?_ (by first | omega | (simp; done) | (simp; omega) | (simp at *; omega)) _) | (with_reducible refine Below.setCell ?_ (by first | omega | (simp; done) | (simp; omega) | (simp at *; omega)) _) | (with_reducible exact Below.refl _ _) | (with_reducible assumption) | (with_reducible refine Below.trans ?_ (Below.mono (by assumption) (by first | omega | (simp; done) | (simp; omega) | (simp at *; omega))))))))) (Lib.hid (HM.out _ (by (repeat (first | (with_reducible refine Below.drew ?_) | (with_reducible refine below_drewN ?_ _) | (with_reducible refine Below.alloc ?_ (by first | omega | (simp; done) | (simp; omega) | (simp at *; omega)) _) | (with_reducible refine Below.setCell ?_ (by first | omega | (simp; done) | (simp; omega) | (simp at *; omega)) _) | (with_reducible exact Below.refl _ _) | (with_reducible assumption) | (with_reducible refine Below.trans ?_ (Below.mono (by assumption) (by first | omega | (simp; done) | (simp; omega) | (simp at *; omega)))))))).mat) hF).mono ?_
  rintro e x2 ⟨rfl, hb2⟩
  have zz2 := hb2.size
  try simp at zz2
  have hc2 : Below x1.heap.size x1 x2 := (by (repeat (first | (with_reducible refine Below.drew ?_) | (with_reducible refine below_drewN ?_ _) | (with_reducible refine Below.alloc ?_ (by first | omega | (simp; done) | (simp; omega) | (simp at *; omega)) _) | (with_reducible refine Below.setCell ?_ (by first | omega | (simp; done) | (simp; omega) | (simp at *; omega)) _) | (with_reducible exact Below.refl _ _) | (with_reducible assumption) | (with_reducible refine Below.trans ?_ (Below.mono (by assumption) (by first | omega | (simp; done) | (simp; omega) | (simp at *; omega)))))))
  have hB2 : Below u.heap.size u x2 := hB1.trans (hc2.mono hB1.size)
  have zu2 := hB2.size
  clear hb2 hB1 zz1 zu1 hc1 c0 c1 hBe hlt
  obtain ⟨c0, c1, hBe, hlt⟩ := HS.out _ hB2
  go_wp2_with fail
  refine (refChart_any A B n n ca cb Pl M 0 _ hn hm (by omega) (by omega) (.inl hcap) hs6 (Lib.hid (HP.out _ (by (repeat (first | (with_reducible refine Below.drew ?_) | (with_reducible refine below_drewN ?_ _) | (with_reducible refine Below.alloc ?_ (by first | omega | (simp; done) | (simp; omega) | (simp at *; omega)) _) | (with_reducible refine Below.setCell ?_ (by first | omega | (simp; done) | (simp; omega) | (simp at *; omega)) _) | (with_reducible exact Below.refl _ _) | (with_reducible assumption) | (with_reducible refine Below.trans ?_ (Below.mono (by assumption) (by first | omega | (simp; done) | (simp; omega) | (simp at *; omega))))))))) (Lib.hid (HM.out _ (by (repeat (first | (with_reducible refine Below.drew ?_) | (with_reducible refine below_drewN ?_ _) | (with_reducible refine Below.alloc ?_ (by first | omega | (simp; done) | (simp; omega) | (simp at *; omega)) _) | (with_reducible refine Below.setCell ?_ (by first | omega | (simp; done) | (simp; omega) | (simp at *; omega)) _) | (with_reducible exact Below.refl _ _) | (with_reducible assumption) | (with_reducible refine Below.trans ?_ (Below.mono (by assumption) (by first | omega | (simp; done) | (simp; omega) | (simp at *; omega)))))))).mat) hC0).mono ?_
  rintro e x3 ⟨rfl, hb3⟩
  have zz3 := hb3.size
  try simp at zz3
  have hc3 : Below x2.heap.size x2 x3 := (by (repeat (first | (with_reducible refine Below.drew ?_) | (with_reducible refine below_drewN ?_ _) | (with_reducible refine Below.alloc ?_ (by first | omega | (simp; done) | (simp; omega) | (simp at *; omega)) _) | (with_reducible refine Below.setCell ?_ (by first | omega | (simp; done) | (simp; omega) | (simp at *; omega)) _) | (with_reducible exact Below.refl _ _) | (with_reducible assumption) | (with_reducible refine Below.trans ?_ (Below.mono (by assumption) (by first | omega | (simp; done) | (simp; omega) | (simp at *; omega)))))))
  have hB3 : Below u.heap.size u x3 := hB2.trans (hc3.mono hB2.size)
  have zu3 := hB3.size
  clear hb3 hB2 zz2 zu2 hc2 c0 c1 hBe hlt
  obtain ⟨c0, c1, hBe, hlt⟩ := HS.out _ hB3
  go_wp2
  go_loopw [5, 6] (fun s i wr => ∃ (k : Nat) (S : Int), k ≤ L ∧ i = .int .i64 k ∧ s = .int .i64 S ∧ Hid (S = wSum M (Q.take k)) ∧ Hid (wOk M (Q.take k)) ∧ Hid (∀ x ∈ Q.take k, 0 ≤ x ∧ x < (n : Int)) ∧ 0 ≤ S ∧ S ≤ 10000 * (k : Int) ∧ Below u.heap.size u wr) (fun _ i _ => L - (intOf i).toNat)
  case atStart => exact ⟨0, 0, by omega, rfl, rfl, Lib.hid rfl, Lib.hid trivial, Lib.hid (by simp), by omega, by omega, (by (repeat (first | (with_reducible refine Below.drew ?_) | (with_reducible refine below_drewN ?_ _) | (with_reducible refine Below.alloc ?_ (by first | omega | (simp; done) | (simp; omega) | (simp at *; omega)) _) | (with_reducible refine Below.setCell ?_ (by first | omega | (simp; done) | (simp; omega) | (simp at *; omega)) _) | (with_reducible exact Below.refl _ _) | (with_reducible assumption) | (with_reducible refine Below.trans ?_ (Below.mono (by assumption) (by first | omega | (simp; done) | (simp; omega) | (simp at *; omega)))))))⟩
  case round =>
    obtain ⟨k, S, hk, rfl, rfl, hS, hW, hI, s0, s1, hB⟩ := hrel
    clear hB3 zz3 zu3 hc3 c0 c1 hBe hlt
    obtain ⟨c0, c1, hBe, hlt⟩ := HS.out _ hB
    have hsz' := hB.size
    by_cases hkL : k < L
    · have kn : (k : Int) < (L : Int) := by omega
      have hkQ : k < Q.length := by have := hq.out; omega
      obtain ⟨v, hv⟩ : ∃ v, Hid (Q.getD k 0 = v) := ⟨_, Lib.hid rfl⟩
      have cv0 := HV.out _ hB k hkL
      rw [hv.out] at cv0
      rcases inB_cases v 0 ((n : Int) - 1) with hin | hin
      rotate_left
      · have hb : Hid (inB v 0 ((n : Int) - 1) = false) := Lib.hid hin
        go_upto_region 9 with (fail)
        refine wp_region_held_drew (S := (fun w' => w'.cell? ⟨w.heap.size, 0, none⟩ = some (.slice A n ca) ∧ w'.cell? ⟨vb, vo + k, none⟩ = some (.int .i64 v))) (by kernel_rfl) (by simp [go_sem, World.cell?_alloc_past, *]) (fun hHeld => ?_)
        refine tkH 0 ⟨some 37, _, _, _, _, _⟩ ?_ rfl ?_ (by assumption) ?_
        rotate_left
        · (intro w hSw; (try dsimp only at hSw); go_simp; all_goals with_reducible rfl)
        try simp only [Act.put, sA, sB, sC]
        refine tkH 1 ⟨some 38, _, _, _, _, _⟩ ?_ rfl ?_ (by assumption) ?_
        rotate_left
        · (intro w hSw; (try dsimp only at hSw); go_simp; all_goals with_reducible rfl)
        try simp only [Act.put, sA, sB, sC]
        refine tkH 2 ⟨some 39, _, _, _, _, _⟩ ?_ rfl ?_ (by assumption) ?_
        rotate_left
        · (intro w hSw; (try dsimp only at hSw); go_simp; all_goals with_reducible rfl)
        try simp only [Act.put, sA, sB, sC]
        refine tkH 3 ⟨some 40, _, _, _, _, _⟩ ?_ rfl ?_ (by assumption) ?_
        rotate_left
        · (intro w hSw; (try dsimp only at hSw); go_simp; all_goals with_reducible rfl)
        try simp only [Act.put, sA, sB, sC]
        refine tkH 4 ⟨some 41, _, _, _, _, _⟩ ?_ rfl ?_ (by assumption) ?_
        rotate_left
        · (intro w hSw; (try dsimp only at hSw); go_simp; all_goals with_reducible rfl)
        try simp only [Act.put, sA, sB, sC]
        refine tkH 5 ⟨some 42, _, _, _, _, _⟩ ?_ rfl ?_ (by assumption) ?_
        rotate_left
        · (intro w hSw; (try dsimp only at hSw); go_simp; all_goals with_reducible rfl)
        try simp only [Act.put, sA, sB, sC]
        refine tkH 6 ⟨some 43, _, _, _, _, _⟩ ?_ rfl ?_ (by assumption) ?_
        rotate_left
        · (intro w hSw; (try dsimp only at hSw); go_simp; all_goals with_reducible rfl)
        try simp only [Act.put, sA, sB, sC]
        refine tkH 7 ⟨some 44, _, _, _, _, _⟩ ?_ rfl ?_ (by assumption) ?_
        rotate_left
        · (intro w hSw; (try dsimp only at hSw); go_simp; all_goals with_reducible rfl)
        try simp only [Act.put, sA, sB, sC]
        refine wpAnyH_ready (rs := [8]) (by kernel_rfl) (by simp) ?_
        refine AllReadyH.cons rfl (fun K hK => ?_) AllReadyH.nil
        go_simp
        refine (bw_is v 0 ((n : Int) - 1) false _ hb).mono ?_
        rintro e w' ⟨rfl, rfl⟩
        go_wp2_with fail
        refine hK.out _ _ (by simp [go_sem, World.cell?_alloc_past, *]) (fun hHeld => ?_)
        clear hK K
        try simp only [Act.put, sA, sB, sC]
        refine tkH 9 ⟨some 46, _, _, _, _, _⟩ ?_ rfl ?_ (by assumption) ?_
        rotate_left
        · (intro w hSw; (try dsimp only at hSw); go_simp; all_goals with_reducible rfl)
        try simp only [Act.put, sA, sB, sC]
        refine wpAnyH_done (by kernel_rfl) ?_ _
        go_wp2
        go_ret
        exact ⟨rfl, hBe.drew⟩
      · have hb : Hid (inB v 0 ((n : Int) - 1) = true) := Lib.hid hin
        obtain ⟨v0, v1⟩ : 0 ≤ v ∧ v < (n : Int) := by
          unfold inB at hin; simp at hin; omega
        have hI2 : Hid (∀ x ∈ Q.take (k + 1), 0 ≤ x ∧ x < (n : Int)) := Lib.hid fun x hx => by
          rw [← List.take_append_getElem hkQ] at hx
          rcases List.mem_append.1 hx with h | h
          · exact hI.out x h
          · have : x = v := by rw [← hv.out, getD_at hkQ]; simpa using h
            omega
        go_upto_region 9 with (fail)
        refine wp_region_held_drew (S := (fun w' => w'.cell? ⟨w.heap.size, 0, none⟩ = some (.slice A n ca) ∧ w'.cell? ⟨vb, vo + k, none⟩ = some (.int .i64 v))) (by kernel_rfl) (by simp [go_sem, World.cell?_alloc_past, *]) (fun hHeld => ?_)
        refine tkH 0 ⟨some 37, _, _, _, _, _⟩ ?_ rfl ?_ (by assumption) ?_
        rotate_left
        · (intro w hSw; (try dsimp only at hSw); go_simp; all_goals with_reducible rfl)
        try simp only [Act.put, sA, sB, sC]
        refine tkH 1 ⟨some 38, _, _, _, _, _⟩ ?_ rfl ?_ (by assumption) ?_
        rotate_left
        · (intro w hSw; (try dsimp only at hSw); go_simp; all_goals with_reducible rfl)
        try simp only [Act.put, sA, sB, sC]
        refine tkH 2 ⟨some 39, _, _, _, _, _⟩ ?_ rfl ?_ (by assumption) ?_
        rotate_left
        · (intro w hSw; (try dsimp only at hSw); go_simp; all_goals with_reducible rfl)
        try simp only [Act.put, sA, sB, sC]
        refine tkH 3 ⟨some 40, _, _, _, _, _⟩ ?_ rfl ?_ (by assumption) ?_
        rotate_left
        · (intro w hSw; (try dsimp only at hSw); go_simp; all_goals with_reducible rfl)
        try simp only [Act.put, sA, sB, sC]
        refine tkH 4 ⟨some 41, _, _, _, _, _⟩ ?_ rfl ?_ (by assumption) ?_
        rotate_left
        · (intro w hSw; (try dsimp only at hSw); go_simp; all_goals with_reducible rfl)
        try simp only [Act.put, sA, sB, sC]
        refine tkH 5 ⟨some 42, _, _, _, _, _⟩ ?_ rfl ?_ (by assumption) ?_
        rotate_left
        · (intro w hSw; (try dsimp only at hSw); go_simp; all_goals with_reducible rfl)
        try simp only [Act.put, sA, sB, sC]
        refine tkH 6 ⟨some 43, _, _, _, _, _⟩ ?_ rfl ?_ (by assumption) ?_
        rotate_left
        · (intro w hSw; (try dsimp only at hSw); go_simp; all_goals with_reducible rfl)
        try simp only [Act.put, sA, sB, sC]
        refine tkH 7 ⟨some 44, _, _, _, _, _⟩ ?_ rfl ?_ (by assumption) ?_
        rotate_left
        · (intro w hSw; (try dsimp only at hSw); go_simp; all_goals with_reducible rfl)
        try simp only [Act.put, sA, sB, sC]
        refine wpAnyH_ready (rs := [8]) (by kernel_rfl) (by simp) ?_
        refine AllReadyH.cons rfl (fun K hK => ?_) AllReadyH.nil
        go_simp
        refine (bw_is v 0 ((n : Int) - 1) true _ hb).mono ?_
        rintro e w' ⟨rfl, rfl⟩
        go_wp2_with fail
        refine hK.out _ _ (by simp [go_sem, World.cell?_alloc_past, *]) (fun hHeld => ?_)
        clear hK K
        try simp only [Act.put, sA, sB, sC]
        refine tkH 9 ⟨some 46, _, _, _, _, _⟩ ?_ rfl ?_ (by assumption) ?_
        rotate_left
        · (intro w hSw; (try dsimp only at hSw); go_simp; all_goals with_reducible rfl)
        try simp only [Act.put, sA, sB, sC]
        refine wpAnyH_done (by kernel_rfl) ?_ _
        by_cases hk0 : k = 0
        · subst hk0
          have HBd := Lib.hid (hB.drew)
          go_wp2
          go_roundw
          case rel => exact ⟨1, S, by omega, by go_num, rfl, Lib.hid (by rw [hS.out]; cases Q with | nil => rfl | cons a r => rfl), Lib.hid (by cases Q with | nil => exact trivial | cons a r => exact trivial), hI2, s0, by omega, HBd.out⟩
          case measure => simp [intOf]; omega
        · obtain ⟨q, rfl⟩ : ∃ q, k = q + 1 := ⟨k - 1, by omega⟩
          have kp : (0 : Int) < ((q + 1 : Nat) : Int) := by omega
          have w2 : IntKind.i64.wrap (((q + 1 : Nat) : Int) - 1) = (q : Int) := by rw [IntWalk.i64_in _ (by omega)]; omega
          have w2' : IntKind.i64.wrap (q : Int) = (q : Int) := IntWalk.i64_in _ (by omega)
          have w2'' : IntKind.i64.wrap ((q : Int) + 1 - 1) = (q : Int) := by rw [IntWalk.i64_in _ (by omega)]; omega
          have kq : (q : Int) < (L : Int) := by omega
          have kn2 : (q : Int) + 1 < (L : Int) := by omega
          have kn3 : (0 : Int) ≤ (q : Int) + 1 := by omega
          obtain ⟨p2, hp2⟩ : ∃ p : Nat, v = (p : Int) := ⟨v.toNat, by omega⟩
          subst hp2
          obtain ⟨pv0, pv1⟩ := hI.out (Q.getD q 0) (by rw [getD_at (show q < Q.length by omega)]; exact List.mem_take_iff_getElem.2 ⟨q, by omega, rfl⟩)
          obtain ⟨p, hp⟩ : ∃ p : Nat, Q.getD q 0 = (p : Int) := ⟨(Q.getD q 0).toNat, by omega⟩
          have cq0 := HV.out _ hB q (by omega)
          rw [hp] at cq0
          have hpn : p < n := by omega
          have hp2n : p2 < n := by omega
          have HC : ChSl wr A B n Pl M := ⟨hn.out, HOK.out, HP.out _ hB, (HM.out _ hB).mat⟩
          obtain ⟨mb, mo, C, cr, eB, lm, g1, csp, lr, g2⟩ := HC.at hpn
          obtain ⟨rb, ro, sp⟩ := C
          dsimp only at csp lr g2
          subst csp
          subst eB
          have g3 := g2 p2 hp2n
          have hbnd := HOK.out.bnd p p2 (by rw [← hn.out]; exact hpn) (by rw [← hn.out]; exact hp2n)
          obtain ⟨t1, t2⟩ := take_snocW (M := M) hkQ
          rw [hp, hv.out, show stp M (p : Int) (p2 : Int) = mAt M p p2 from rfl] at t1 t2
          obtain ⟨mm, hmm⟩ : ∃ x, Hid (mAt M p p2 = x) := ⟨_, Lib.hid rfl⟩
          rw [hmm.out] at g3 hbnd t1 t2
          have e1 : (p : Int) < (n : Int) := by omega
          have e2 : (p2 : Int) < (n : Int) := by omega
          clear HC g2
          have T1 := Lib.hid t1
          have T2 := Lib.hid t2
          clear t1 t2
          go_upto_region 12 with (fail)
          refine wp_region_held_drew (S := (fun w' => w'.cell? ⟨w.heap.size, 1, none⟩ = some (.slice (some ⟨mb, mo, none⟩) n cb) ∧ w'.cell? ⟨vb, vo + q, none⟩ = some (.int .i64 (p : Nat)) ∧ w'.cell? ⟨vb, vo + (q + 1), none⟩ = some (.int .i64 (p2 : Nat)) ∧ w'.cell? ⟨mb, mo + p, none⟩ = some (.slice (some ⟨rb, ro, none⟩) n cr) ∧ w'.cell? ⟨rb, ro + p2, none⟩ = some (.int .i64 mm))) (by kernel_rfl) (by simp [go_sem, World.cell?_alloc_past, *]) (fun hHeld => ?_)
          refine tkH 0 ⟨some 49, _, _, _, _, _⟩ ?_ rfl ?_ (by assumption) ?_
          rotate_left
          · (intro w hSw; (try dsimp only at hSw); go_simp; all_goals with_reducible rfl)
          try simp only [Act.put, sA, sB, sC]
          refine tkH 1 ⟨some 50, _, _, _, _, _⟩ ?_ rfl ?_ (by assumption) ?_
          rotate_left
          · (intro w hSw; (try dsimp only at hSw); go_simp; all_goals with_reducible rfl)
          try simp only [Act.put, sA, sB, sC]
          refine tkH 2 ⟨some 51, _, _, _, _, _⟩ ?_ rfl ?_ (by assumption) ?_
          rotate_left
          · (intro w hSw; (try dsimp only at hSw); go_simp; all_goals with_reducible rfl)
          try simp only [Act.put, sA, sB, sC]
          refine tkH 3 ⟨some 52, _, _, _, _, _⟩ ?_ rfl ?_ (by assumption) ?_
          rotate_left
          · (intro w hSw; (try dsimp only at hSw); go_simp; all_goals with_reducible rfl)
          try simp only [Act.put, sA, sB, sC]
          refine tkH 4 ⟨some 53, _, _, _, _, _⟩ ?_ rfl ?_ (by assumption) ?_
          rotate_left
          · (intro w hSw; (try dsimp only at hSw); go_simp; all_goals with_reducible rfl)
          try simp only [Act.put, sA, sB, sC]
          refine tkH 5 ⟨some 54, _, _, _, _, _⟩ ?_ rfl ?_ (by assumption) ?_
          rotate_left
          · (intro w hSw; (try dsimp only at hSw); go_simp; all_goals with_reducible rfl)
          try simp only [Act.put, sA, sB, sC]
          refine tkH 6 ⟨some 55, _, _, _, _, _⟩ ?_ rfl ?_ (by assumption) ?_
          rotate_left
          · (intro w hSw; (try dsimp only at hSw); go_simp; all_goals with_reducible rfl)
          try simp only [Act.put, sA, sB, sC]
          refine tkH 7 ⟨some 56, _, _, _, _, _⟩ ?_ rfl ?_ (by assumption) ?_
          rotate_left
          · (intro w hSw; (try dsimp only at hSw); go_simp; all_goals with_reducible rfl)
          try simp only [Act.put, sA, sB, sC]
          refine tkH 8 ⟨some 57, _, _, _, _, _⟩ ?_ rfl ?_ (by assumption) ?_
          rotate_left
          · (intro w hSw; (try dsimp only at hSw); go_simp; all_goals with_reducible rfl)
          try simp only [Act.put, sA, sB, sC]
          refine tkH 9 ⟨some 58, _, _, _, _, _⟩ ?_ rfl ?_ (by assumption) ?_
          rotate_left
          · (intro w hSw; (try dsimp only at hSw); go_simp; all_goals with_reducible rfl)
          try simp only [Act.put, sA, sB, sC]
          refine tkH 10 ⟨some 59, _, _, _, _, _⟩ ?_ rfl ?_ (by assumption) ?_
          rotate_left
          · (intro w hSw; (try dsimp only at hSw); go_simp; all_goals with_reducible rfl)
          try simp only [Act.put, sA, sB, sC]
          refine tkH 11 ⟨some 60, _, _, _, _, _⟩ ?_ rfl ?_ (by assumption) ?_
          rotate_left
          · (intro w hSw; (try dsimp only at hSw); go_simp; all_goals with_reducible rfl)
          try simp only [Act.put, sA, sB, sC]
          refine tkH 12 ⟨some 61, _, _, _, _, _⟩ ?_ rfl ?_ (by assumption) ?_
          rotate_left
          · (intro w hSw; (try dsimp only at hSw); go_simp; all_goals with_reducible rfl)
          try simp only [Act.put, sA, sB, sC]
          refine tkH 13 ⟨some 62, _, _, _, _, _⟩ ?_ rfl ?_ (by assumption) ?_
          rotate_left
          · (intro w hSw; (try dsimp only at hSw); go_simp; all_goals with_reducible rfl)
          try simp only [Act.put, sA, sB, sC]
          refine tkH 14 ⟨some 63, _, _, _, _, _⟩ ?_ rfl ?_ (by assumption) ?_
          rotate_left
          · (intro w hSw; (try dsimp only at hSw); go_simp; all_goals with_reducible rfl)
          try simp only [Act.put, sA, sB, sC]
          refine tkH 15 ⟨some 7, _, _, _, _, _⟩ ?_ rfl ?_ (by assumption) ?_
          rotate_left
          · (intro w hSw; (try dsimp only at hSw); go_simp; all_goals with_reducible rfl)
          try simp only [Act.put, sA, sB, sC]
          refine wpAnyH_done (by kernel_rfl) ?_ _
          have HBd := Lib.hid (hB.drew.drew)
          by_cases hm0 : mm < 0
          · go_wp2
            go_ret
            exact ⟨rfl, hBe.drew.drew⟩
          · have w3 : IntKind.i64.wrap (S + mm) = S + mm := IntWalk.i64_in _ (by omega)
            go_wp2
            go_roundw
            case rel => exact ⟨q + 1 + 1, S + mm, by omega, by go_num, rfl, Lib.hid (by rw [T1.out, hS.out]), Lib.hid (T2.out.2 ⟨hW.out, by omega⟩), hI2, by omega, by omega, HBd.out⟩
            case measure => simp [intOf]; omega
    · have kn : ¬ (k : Int) < (L : Int) := by omega
      have hkk : k = L := by omega
      have hT : Q.take k = Q := List.take_of_length_le (by have := hq.out; omega)
      rw [hT] at hS hW hI
      have hQne : Q ≠ [] := by intro h; have := hq.out; rw [h] at this; simp at this; omega
      have hLB := no_shorter (M := M) (n := n) (fun i hi => by rw [HOK.out.row i (by rw [← hn.out]; exact hi)]; exact hn.out.symm) hQne hI.out hW.out
      obtain ⟨fb0, fb1⟩ := hI.out (Q.getD 0 0) (by rw [getD_at (show 0 < Q.length by have := hq.out; omega)]; exact List.getElem_mem _)
      obtain ⟨tb0, tb1⟩ := hI.out (Q.getD (L - 1) 0) (by rw [getD_at (show L - 1 < Q.length by have := hq.out; omega)]; exact List.getElem_mem _)
      rw [headI_getD, lastI_getD, ← hq.out] at hLB
      obtain ⟨fr, hfr⟩ : ∃ p : Nat, Q.getD 0 0 = (p : Int) := ⟨(Q.getD 0 0).toNat, by omega⟩
      obtain ⟨tt, htt⟩ : ∃ p : Nat, Q.getD (L - 1) 0 = (p : Int) := ⟨(Q.getD (L - 1) 0).toNat, by omega⟩
      rw [hfr, htt, Int.toNat_natCast, Int.toNat_natCast, ← hS.out] at hLB
      have hf : fr < n := by omega
      have ht : tt < n := by omega
      obtain ⟨P, hP⟩ : ∃ P, Hid (((gRnd (gZero n fr) M n n).getD tt default).ps = P) := ⟨_, Lib.hid rfl⟩
      obtain ⟨mi, hmi⟩ : ∃ x, Hid (((gRnd (gZero n fr) M n n).getD tt default).mi = x) := ⟨_, Lib.hid rfl⟩
      obtain ⟨lb1, hle⟩ := hLB
      rw [hP.out] at lb1
      rw [hmi.out] at hle
      have hne := Lib.hid lb1
      obtain ⟨L9, h9⟩ : ∃ x, Hid (x = L - 1) := ⟨_, Lib.hid rfl⟩
      have w9 : IntKind.i64.wrap ((L : Int) - 1) = (L9 : Int) := by have := h9.out; rw [IntWalk.i64_in _ (by omega)]; omega
      have l9 : (L9 : Int) < (L : Int) := by have := h9.out; omega
      have l0 : (0 : Int) < (L : Int) := by omega
      have HX : Hid (∀ y, Below wr.heap.size wr y → ChS A B n n ca cb w y ∧ y.cell? ⟨vb, vo, none⟩ = some (.int .i64 (fr : Nat)) ∧ y.cell? ⟨vb, vo + L9, none⟩ = some (.int .i64 (tt : Nat))) := Lib.hid fun y hy => ⟨HS.out _ (hB.trans (hy.mono hsz')), by have := HV.out _ (hB.trans (hy.mono hsz')) 0 (by omega); rw [hfr, Nat.add_zero] at this; exact this, by rw [h9.out, HV.out _ (hB.trans (hy.mono hsz')) (L - 1) (by omega), htt]⟩
      replace HP : Hid (∀ y, Below wr.heap.size wr y → SlRows strV 1 y A Pl) := Lib.hid (by have h := HP.out; exact fun y hy => h _ (hB.trans (hy.mono hsz')))
      replace HM : Hid (∀ y, Below wr.heap.size wr y → SlMatC y B M) := Lib.hid (by have h := HM.out; exact fun y hy => h _ (hB.trans (hy.mono hsz')))
      clear c0 c1 hBe hlt HS HV HU hB hsz' hS hW hI lb1 hT
      obtain ⟨⟨c0, c1, hBe, hlt⟩, cf, ct⟩ := HX.out _ (Below.refl _ _)
      go_upto_region 16 with (fail)
      refine wp_region_held_drew (S := (fun w' => w'.cell? ⟨w.heap.size, 0, none⟩ = some (.slice A n ca) ∧ w'.cell? ⟨w.heap.size, 1, none⟩ = some (.slice B n cb) ∧ w'.cell? ⟨vb, vo, none⟩ = some (.int .i64 (fr : Nat)) ∧ w'.cell? ⟨vb, vo + L9, none⟩ = some (.int .i64 (tt : Nat)))) (by kernel_rfl) (by simp [go_sem, World.cell?_alloc_past, *]) (fun hHeld => ?_)
      refine tkH 0 ⟨some 70, _, _, _, _, _⟩ ?_ rfl ?_ (by assumption) ?_
      rotate_left
      · (intro w hSw; (try dsimp only at hSw); go_simp; all_goals with_reducible rfl)
      try simp only [Act.put, sA, sB, sC]
      refine tkH 2 ⟨some 72, _, _, _, _, _⟩ ?_ rfl ?_ (by assumption) ?_
      rotate_left
      · (intro w hSw; (try dsimp only at hSw); go_simp; all_goals with_reducible rfl)
      try simp only [Act.put, sA, sB, sC]
      refine tkH 3 ⟨some 73, _, _, _, _, _⟩ ?_ rfl ?_ (by assumption) ?_
      rotate_left
      · (intro w hSw; (try dsimp only at hSw); go_simp; all_goals with_reducible rfl)
      try simp only [Act.put, sA, sB, sC]
      refine tkH 4 ⟨some 74, _, _, _, _, _⟩ ?_ rfl ?_ (by assumption) ?_
      rotate_left
      · (intro w hSw; (try dsimp only at hSw); go_simp; all_goals with_reducible rfl)
      try simp only [Act.put, sA, sB, sC]
      refine tkH 5 ⟨some 75, _, _, _, _, _⟩ ?_ rfl ?_ (by assumption) ?_
      rotate_left
      · (intro w hSw; (try dsimp only at hSw); go_simp; all_goals with_reducible rfl)
      try simp only [Act.put, sA, sB, sC]
      refine tkH 6 ⟨some 76, _, _, _, _, _⟩ ?_ rfl ?_ (by assumption) ?_
      rotate_left
      · (intro w hSw; (try dsimp only at hSw); go_simp; all_goals with_reducible rfl)
      try simp only [Act.put, sA, sB, sC]
      refine tkH 7 ⟨some 77, _, _, _, _, _⟩ ?_ rfl ?_ (by assumption) ?_
      rotate_left
      · (intro w hSw; (try dsimp only at hSw); go_simp; all_goals with_reducible rfl)
      try simp only [Act.put, sA, sB, sC]
      refine tkH 8 ⟨some 78, _, _, _, _, _⟩ ?_ rfl ?_ (by assumption) ?_
      rotate_left
      · (intro w hSw; (try dsimp only at hSw); go_simp; all_goals with_reducible rfl)
      try simp only [Act.put, sA, sB, sC]
      refine tkH 9 ⟨some 79, _, _, _, _, _⟩ ?_ rfl ?_ (by assumption) ?_
      rotate_left
      · (intro w hSw; (try dsimp only at hSw); go_simp; all_goals with_reducible rfl)
      try simp only [Act.put, sA, sB, sC]
      refine tkH 10 ⟨some 80, _, _, _, _, _⟩ ?_ rfl ?_ (by assumption) ?_
      rotate_left
      · (intro w hSw; (try dsimp only at hSw); go_simp; all_goals with_reducible rfl)
      try simp only [Act.put, sA, sB, sC]
      refine wpAnyH_ready (rs := [1]) (by kernel_rfl) (by simp) ?_
      refine AllReadyH.cons rfl (fun K hK => ?_) AllReadyH.nil
      go_simp
      refine (chart_is A B n n ca cb Pl M _ hn hm (by omega) (by omega) hrs CA (Lib.hid (HP.out _ (by (repeat (first | (with_reducible refine Below.drew ?_) | (with_reducible refine below_drewN ?_ _) | (with_reducible refine Below.alloc ?_ (by first | omega | (simp; done) | (simp; omega) | (simp at *; omega)) _) | (with_reducible refine Below.setCell ?_ (by first | omega | (simp; done) | (simp; omega) | (simp at *; omega)) _) | (with_reducible exact Below.refl _ _) | (with_reducible assumption) | (with_reducible refine Below.trans ?_ (Below.mono (by assumption) (by first | omega | (simp; done) | (simp; omega) | (simp at *; omega))))))))) (Lib.hid (HM.out _ (by (repeat (first | (with_reducible refine Below.drew ?_) | (with_reducible refine below_drewN ?_ _) | (with_reducible refine Below.alloc ?_ (by first | omega | (simp; done) | (simp; omega) | (simp at *; omega)) _) | (with_reducible refine Below.setCell ?_ (by first | omega | (simp; done) | (simp; omega) | (simp at *; omega)) _) | (with_reducible exact Below.refl _ _) | (with_reducible assumption) | (with_reducible refine Below.trans ?_ (Below.mono (by assumption) (by first | omega | (simp; done) | (simp; omega) | (simp at *; omega)))))))))).mono ?_
      rintro e x1 ⟨GC, HC, gc, hc, rfl, hSP, hSM, hb1⟩
      have zz1 := hb1.size
      try simp at zz1
      have hc1 : Below wr.heap.size wr x1 := (by (repeat (first | (with_reducible refine Below.drew ?_) | (with_reducible refine below_drewN ?_ _) | (with_reducible refine Below.alloc ?_ (by first | omega | (simp; done) | (simp; omega) | (simp at *; omega)) _) | (with_reducible refine Below.setCell ?_ (by first | omega | (simp; done) | (simp; omega) | (simp at *; omega)) _) | (with_reducible exact Below.refl _ _) | (with_reducible assumption) | (with_reducible refine Below.trans ?_ (Below.mono (by assumption) (by first | omega | (simp; done) | (simp; omega) | (simp at *; omega)))))))
      have hB1 : Below wr.heap.size wr x1 := hc1
      have zu1 := hB1.size
      have HSP := Lib.hid hSP
      have HSM := Lib.hid hSM.mat
      clear hSP hSM
      clear hb1 c0 c1 hBe hlt cf ct
      obtain ⟨⟨c0, c1, hBe, hlt⟩, cf, ct⟩ := HX.out _ hB1
      go_wp2_with fail
      refine hK.out _ _ (by simp [go_sem, World.cell?_alloc_past, *]) (fun hHeld => ?_)
      clear hK K
      try simp only [Act.put, sA, sB, sC]
      refine wpAnyH_ready (rs := [11]) (by kernel_rfl) (by simp) ?_
      refine AllReadyH.cons rfl (fun K hK => ?_) AllReadyH.nil
      go_simp
      refine (Way_ok GC HC n gc hc fr tt Pl M P P.length mi _ (by omega) n12 (Lib.hid ⟨hn.out, HOK.out, HSP.out, HSM.out⟩) hf ht hP hmi hne (Lib.hid rfl)).mono ?_
      rintro e x2 ⟨g, gcap, rfl, _, _, hb2⟩
      have zz2 := hb2.size
      try simp at zz2
      have hc2 : Below x1.heap.size x1 x2 := (by (repeat (first | (with_reducible refine Below.drew ?_) | (with_reducible refine below_drewN ?_ _) | (with_reducible refine Below.alloc ?_ (by first | omega | (simp; done) | (simp; omega) | (simp at *; omega)) _) | (with_reducible refine Below.setCell ?_ (by first | omega | (simp; done) | (simp; omega) | (simp at *; omega)) _) | (with_reducible exact Below.refl _ _) | (with_reducible assumption) | (with_reducible refine Below.trans ?_ (Below.mono (by assumption) (by first | omega | (simp; done) | (simp; omega) | (simp at *; omega)))))))
      have hB2 : Below wr.heap.size wr x2 := hB1.trans (hc2.mono hB1.size)
      have zu2 := hB2.size
      clear HSP HSM
      clear hb2 hB1 zz1 zu1 hc1 c0 c1 hBe hlt cf ct
      obtain ⟨⟨c0, c1, hBe, hlt⟩, cf, ct⟩ := HX.out _ hB2
      go_wp2_with fail
      refine hK.out _ _ (by simp [go_sem, World.cell?_alloc_past, *]) (fun hHeld => ?_)
      clear hK K
      try simp only [Act.put, sA, sB, sC]
      refine tkH 12 ⟨some 69, _, _, _, _, _⟩ ?_ rfl ?_ (by assumption) ?_
      rotate_left
      · (intro w hSw; (try dsimp only at hSw); go_simp; all_goals with_reducible rfl)
      try simp only [Act.put, sA, sB, sC]
      refine tkH 13 ⟨some 82, _, _, _, _, _⟩ ?_ rfl ?_ (by assumption) ?_
      rotate_left
      · (intro w hSw; (try dsimp only at hSw); go_simp; all_goals with_reducible rfl)
      try simp only [Act.put, sA, sB, sC]
      refine tkH 14 ⟨some 83, _, _, _, _, _⟩ ?_ rfl ?_ (by assumption) ?_
      rotate_left
      · (intro w hSw; (try dsimp only at hSw); go_simp; all_goals with_reducible rfl)
      try simp only [Act.put, sA, sB, sC]
      refine tkH 15 ⟨some 84, _, _, _, _, _⟩ ?_ rfl ?_ (by assumption) ?_
      rotate_left
      · (intro w hSw; (try dsimp only at hSw); go_simp; all_goals with_reducible rfl)
      try simp only [Act.put, sA, sB, sC]
      refine tkH 16 ⟨some 8, _, _, _, _, _⟩ ?_ rfl ?_ (by assumption) ?_
      rotate_left
      · (intro w hSw; (try dsimp only at hSw); go_simp; all_goals with_reducible rfl)
      try simp only [Act.put, sA, sB, sC]
      refine tkH 17 ⟨some 9, _, _, _, _, _⟩ ?_ rfl ?_ (by assumption) ?_
      rotate_left
      · (intro w hSw; (try dsimp only at hSw); go_simp; all_goals with_reducible rfl)
      try simp only [Act.put, sA, sB, sC]
      refine tkH 18 ⟨some 10, _, _, _, _, _⟩ ?_ rfl ?_ (by assumption) ?_
      rotate_left
      · (intro w hSw; (try dsimp only at hSw); go_simp; all_goals with_reducible rfl)
      try simp only [Act.put, sA, sB, sC]
      refine wpAnyH_done (by kernel_rfl) ?_ _
      go_wp2
      go_ret
      exact ⟨rfl, hBe⟩
theorem siteNoShorter_any (Pl : List ByteArray) (A : Option Addr) (ca : Nat) (M : List (List Int)) (B : Option Addr) (cb : Nat) (Q : List Int) (V : Option Addr) (cv : Nat) (w : World)
    (_ : Pl.length ≤ 9223372036854775807) (CA0 : A = none → ca = 0) (HP : SlRows strV 1 w A Pl) (hsz : ∀ g ∈ Pl, (fun s => s.size ≤ maxLen) g) (hcap : Pl.length ≤ ca)
    (_ : M.length ≤ 9223372036854775807) (_ : B = none → cb = 0) (HM : SlSl (fun A0 L0 c0 => SlRows intV 1 w A0 L0 ∧ (∀ g ∈ L0, (fun _ => True) g) ∧ (A0 = none → c0 = 0) ∧ L0.length ≤ c0 ∧ c0 ≤ maxLen) w B M)
    (_ : Q.length ≤ 9223372036854775807) (_ : V = none → cv = 0) (HQ : SlRows intV 1 w V Q) :
    Calls Tryz.prog 8 #[.agg #[.slice A Pl.length ca, .slice B M.length cb], .slice V Q.length cv] w fun e w' => e = .returned (.bool true) ∧ Below w.heap.size w w' := by
  have hz : Hid (∀ s ∈ Pl, s.size ≤ 9223372036854775807) := Lib.hid fun s hs => by have := hsz s hs; simp only at this; unfold maxLen at this; omega
  have hM1 := Lib.hid (slsl_mat HM).1
  have hM2 := Lib.hid (slsl_mat HM).2
  by_cases hF : flatB Pl M = true
  · obtain ⟨f1, f2, f3, f4⟩ := flatB_ok hF
    have hs6 : Hid (∀ s ∈ Pl, s.size ≤ 1000000) := Lib.hid fun s hs => by have := f3 s hs; omega
    have hrs : Hid (∀ k, k < M.length → (M.getD k []).length ≤ 1000000) := Lib.hid fun k hk => by
      rw [getD_at hk]; have := f4 _ (List.getElem_mem hk); omega
    by_cases hC : chtE Pl M = 0
    · by_cases h0 : Q.length = 0
      · exact ns_len0 A B V _ _ ca cb _ cv Pl M Q w (Lib.hid rfl) (Lib.hid rfl) (Lib.hid rfl) hz hM2 (Lib.hid HP) hM1 (Lib.hid HQ) (Lib.hid hF) f1 f2 hcap hs6 (Lib.hid hC) h0
      by_cases h8 : 8 < Q.length
      · exact ns_len9 A B V _ _ ca cb _ cv Pl M Q w (Lib.hid rfl) (Lib.hid rfl) (Lib.hid rfl) hz hM2 (Lib.hid HP) hM1 (Lib.hid HQ) (Lib.hid hF) f1 f2 hcap hs6 (Lib.hid hC) h8
      have hlen := (chtE_ok hs6.out hC).len
      rw [hlen] at hrs f2 ⊢
      have hM3 : Hid (∀ k, k < Pl.length → (M.getD k []).length ≤ 9223372036854775807) := Lib.hid (by rw [← hlen]; exact hM2.out)
      exact ns_walk A B V _ ca cb _ cv Pl M Q w (Lib.hid rfl) (Lib.hid hlen.symm) (Lib.hid rfl) hz hM3 (Lib.hid HP) hM1 (Lib.hid HQ) (Lib.hid hF) f1 f2 hcap hs6 (Lib.hid hC) (by omega) (by omega) hrs (Lib.hid fun h => ⟨by rw [h] at HP; rw [gr_none HP]; rfl, CA0 h⟩)
    · exact ns_chart A B V _ _ ca cb _ cv Pl M Q w (Lib.hid rfl) (Lib.hid rfl) (Lib.hid rfl) hz hM2 (Lib.hid HP) hM1 (Lib.hid HQ) (Lib.hid hF) f1 f2 hcap hs6 _ (Lib.hid rfl) (by simpa using hC)
  · exact ns_flat A B V _ _ ca cb _ cv Pl M Q w (Lib.hid rfl) (Lib.hid rfl) (Lib.hid rfl) hz hM2 (Lib.hid HP) hM1 (Lib.hid HQ) (Lib.hid (by simpa using hF))
end Go.Proofs.YtojaompfffpofaaGreat
