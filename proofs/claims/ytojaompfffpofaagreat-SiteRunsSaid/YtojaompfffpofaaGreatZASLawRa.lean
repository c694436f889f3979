import Derived.Test.YtojaompfffpofaaGreatZASWnC
import Derived.Test.YtojaompfffpofaaGreatZASAwk2
import Derived.Outline
namespace Go.Proofs.YtojaompfffpofaaGreat
open Go.ChangeShapes Go.WideShapes Go.ChangeAt Go.RowKit
set_option linter.unusedVariables false
set_option linter.unusedSimpArgs false
attribute [local go_sem ↓] Go.wp_at_zero Go.wp_at_succ
set_option maxRecDepth 100000 in
set_option maxHeartbeats 4000000 in
theorem rn_flat (A B Aq As D : Option Addr) (n m ca cb l l2 cq cs lw cd : Nat) (Pl : List ByteArray) (M : List (List Int)) (bg : Int) (Q Z : List Int) (W : List (List Rg)) (w : World) (hn : Hid (n = Pl.length)) (hm : Hid (m = M.length)) (hq : Hid (l = Q.length)) (hq2 : Hid (l2 = Z.length)) (hlw : Hid (lw = W.length)) (hsz : Hid (∀ s ∈ Pl, s.size ≤ 9223372036854775807)) (hrl : Hid (∀ k, k < m → (M.getD k []).length ≤ 9223372036854775807)) (HP0 : Hid (SlRows strV 1 w A Pl)) (HM0 : Hid (SlMatC w B M)) (HQ0 : Hid (SlRows intV 1 w Aq Q)) (HZ0 : Hid (SlRows intV 1 w As Z)) (HW0 : Hid (SlWnC w D W)) (hF : Hid (flatB Pl M = false)) :
    Calls Tryz.prog 9 #[.agg #[.slice A n ca, .slice B m cb], .agg #[.int .i64 bg, .slice Aq l cq, .slice As l2 cs], .slice D lw cd] w fun e w' => e = .returned (.bool true) ∧ Below w.heap.size w w' := by
  go_enter Tryz.func9, Tryz.ntmps9
  go_upto_region 1 with (fail)
  refine wp_world (RuS A B Aq As n m ca cb l l2 cq cs bg w) ⟨by simp [go_sem, World.cell?_alloc_past], by simp [go_sem, World.cell?_alloc_past], by simp [go_sem, World.cell?_alloc_past], by simp [go_sem, World.cell?_alloc_past], by simp [go_sem, World.cell?_alloc_past], (by (repeat (first | (with_reducible refine Below.drew ?_) | (with_reducible refine below_drewN ?_ _) | (with_reducible refine Below.alloc ?_ (by first | omega | (simp; done) | (simp; omega) | (simp at *; omega)) _) | (with_reducible refine Below.setCell ?_ (by first | omega | (simp; done) | (simp; omega) | (simp at *; omega)) _) | (with_reducible exact Below.refl _ _) | (with_reducible assumption) | (with_reducible refine Below.trans ?_ (Below.mono (by assumption) (by first | omega | (simp; done) | (simp; omega) | (simp at *; omega))))))), by simp⟩ (fun u hu => ?_)
  have HU := Lib.hid hu
  have HS : Hid (∀ x, Below u.heap.size u x → RuS A B Aq As n m ca cb l l2 cq cs bg w x) := Lib.hid fun x hx => HU.out.below hx
  have HP : Hid (∀ x, Below u.heap.size u x → SlRows strV 1 x A Pl) := Lib.hid fun x hx => HP0.out.below (HU.out.below hx).be
  have HM : Hid (∀ x, Below u.heap.size u x → SlMatC x B M) := Lib.hid fun x hx => HM0.out.below (HU.out.below hx).be
  obtain ⟨c0, c1, r0, r1, r2, hBe, hlt⟩ := hu
  go_wp2_with fail
  refine (awake_any _).mono ?_
  rintro e x1 ⟨rfl, hb1⟩
  have zz1 := hb1.size
  try simp at zz1
  have hc1 : Below u.heap.size u x1 := (by (repeat (first | (with_reducible refine Below.drew ?_) | (with_reducible refine below_drewN ?_ _) | (with_reducible refine Below.alloc ?_ (by first | omega | (simp; done) | (simp; omega) | (simp at *; omega)) _) | (with_reducible refine Below.setCell ?_ (by first | omega | (simp; done) | (simp; omega) | (simp at *; omega)) _) | (with_reducible exact Below.refl _ _) | (with_reducible assumption) | (with_reducible refine Below.trans ?_ (Below.mono (by assumption) (by first | omega | (simp; done) | (simp; omega) | (simp at *; omega)))))))
  have hB1 : Below u.heap.size u x1 := hc1
  have zu1 := hB1.size
  clear hb1 c0 c1 r0 r1 r2 hBe hlt
  obtain ⟨c0, c1, r0, r1, r2, hBe, hlt⟩ := HS.out _ hB1
  go_wp2_with fail
  refine (flat_any A B n m ca cb Pl M false _ hn hm hsz hrl (Lib.hid (HP.out _ (by (repeat (first | (with_reducible refine Below.drew ?_) | (with_reducible refine below_drewN ?_ _) | (with_reducible refine Below.alloc ?_ (by first | omega | (simp; done) | (simp; omega) | (simp at *; omega)) _) | (with_reducible refine Below.setCell ?_ (by first | omega | (simp; done) | (simp; omega) | (simp at *; omega)) _) | (with_reducible exact Below.refl _ _) | (with_reducible assumption) | (with_reducible refine Below.trans ?_ (Below.mono (by assumption) (by first | omega | (simp; done) | (simp; omega) | (simp at *; omega))))))))) (Lib.hid (HM.out _ (by (repeat (first | (with_reducible refine Below.drew ?_) | (with_reducible refine below_drewN ?_ _) | (with_reducible refine Below.alloc ?_ (by first | omega | (simp; done) | (simp; omega) | (simp at *; omega)) _) | (with_reducible refine Below.setCell ?_ (by first | omega | (simp; done) | (simp; omega) | (simp at *; omega)) _) | (with_reducible exact Below.refl _ _) | (with_reducible assumption) | (with_reducible refine Below.trans ?_ (Below.mono (by assumption) (by first | omega | (simp; done) | (simp; omega) | (simp at *; omega)))))))).mat) hF).mono ?_
  rintro e x2 ⟨rfl, hb2⟩
  have zz2 := hb2.size
  try simp at zz2
  have hc2 : Below x1.heap.size x1 x2 := (by (repeat (first | (with_reducible refine Below.drew ?_) | (with_reducible refine below_drewN ?_ _) | (with_reducible refine Below.alloc ?_ (by first | omega | (simp; done) | (simp; omega) | (simp at *; omega)) _) | (with_reducible refine Below.setCell ?_ (by first | omega | (simp; done) | (simp; omega) | (simp at *; omega)) _) | (with_reducible exact Below.refl _ _) | (with_reducible assumption) | (with_reducible refine Below.trans ?_ (Below.mono (by assumption) (by first | omega | (simp; done) | (simp; omega) | (simp at *; omega)))))))
  have hB2 : Below u.heap.size u x2 := hB1.trans (hc2.mono hB1.size)
  have zu2 := hB2.size
  clear hb2 hB1 zz1 zu1 hc1 c0 c1 r0 r1 r2 hBe hlt
  obtain ⟨c0, c1, r0, r1, r2, hBe, hlt⟩ := HS.out _ hB2
  go_wp2
  go_ret
  exact ⟨rfl, hBe⟩
set_option maxRecDepth 100000 in
set_option maxHeartbeats 4000000 in
theorem rn_many1 (A B Aq As D : Option Addr) (n m ca cb l l2 cq cs lw cd : Nat) (Pl : List ByteArray) (M : List (List Int)) (bg : Int) (Q Z : List Int) (W : List (List Rg)) (w : World) (hn : Hid (n = Pl.length)) (hm : Hid (m = M.length)) (hq : Hid (l = Q.length)) (hq2 : Hid (l2 = Z.length)) (hlw : Hid (lw = W.length)) (hsz : Hid (∀ s ∈ Pl, s.size ≤ 9223372036854775807)) (hrl : Hid (∀ k, k < m → (M.getD k []).length ≤ 9223372036854775807)) (HP0 : Hid (SlRows strV 1 w A Pl)) (HM0 : Hid (SlMatC w B M)) (HQ0 : Hid (SlRows intV 1 w Aq Q)) (HZ0 : Hid (SlRows intV 1 w As Z)) (HW0 : Hid (SlWnC w D W)) (hF : Hid (flatB Pl M = true)) (h1 : 14 < l) :
    Calls Tryz.prog 9 #[.agg #[.slice A n ca, .slice B m cb], .agg #[.int .i64 bg, .slice Aq l cq, .slice As l2 cs], .slice D lw cd] w fun e w' => e = .returned (.bool true) ∧ Below w.heap.size w w' := by
  have i1 : (14 : Int) < (l : Int) := by omega
  go_enter Tryz.func9, Tryz.ntmps9
  go_upto_region 1 with (fail)
  refine wp_world (RuS A B Aq As n m ca cb l l2 cq cs bg w) ⟨by simp [go_sem, World.cell?_alloc_past], by simp [go_sem, World.cell?_alloc_past], by simp [go_sem, World.cell?_alloc_past], by simp [go_sem, World.cell?_alloc_past], by simp [go_sem, World.cell?_alloc_past], (by (repeat (first | (with_reducible refine Below.drew ?_) | (with_reducible refine below_drewN ?_ _) | (with_reducible refine Below.alloc ?_ (by first | omega | (simp; done) | (simp; omega) | (simp at *; omega)) _) | (with_reducible refine Below.setCell ?_ (by first | omega | (simp; done) | (simp; omega) | (simp at *; omega)) _) | (with_reducible exact Below.refl _ _) | (with_reducible assumption) | (with_reducible refine Below.trans ?_ (Below.mono (by assumption) (by first | omega | (simp; done) | (simp; omega) | (simp at *; omega))))))), by simp⟩ (fun u hu => ?_)
  have HU := Lib.hid hu
  have HS : Hid (∀ x, Below u.heap.size u x → RuS A B Aq As n m ca cb l l2 cq cs bg w x) := Lib.hid fun x hx => HU.out.below hx
  have HP : Hid (∀ x, Below u.heap.size u x → SlRows strV 1 x A Pl) := Lib.hid fun x hx => HP0.out.below (HU.out.below hx).be
  have HM : Hid (∀ x, Below u.heap.size u x → SlMatC x B M) := Lib.hid fun x hx => HM0.out.below (HU.out.below hx).be
  obtain ⟨c0, c1, r0, r1, r2, hBe, hlt⟩ := hu
  go_wp2_with fail
  refine (awake_any _).mono ?_
  rintro e x1 ⟨rfl, hb1⟩
  have zz1 := hb1.size
  try simp at zz1
  have hc1 : Below u.heap.size u x1 := (by (repeat (first | (with_reducible refine Below.drew ?_) | (with_reducible refine below_drewN ?_ _) | (with_reducible refine Below.alloc ?_ (by first | omega | (simp; done) | (simp; omega) | (simp at *; omega)) _) | (with_reducible refine Below.setCell ?_ (by first | omega | (simp; done) | (simp; omega) | (simp at *; omega)) _) | (with_reducible exact Below.refl _ _) | (with_reducible assumption) | (with_reducible refine Below.trans ?_ (Below.mono (by assumption) (by first | omega | (simp; done) | (simp; omega) | (simp at *; omega)))))))
  have hB1 : Below u.heap.size u x1 := hc1
  have zu1 := hB1.size
  clear hb1 c0 c1 r0 r1 r2 hBe hlt
  obtain ⟨c0, c1, r0, r1, r2, hBe, hlt⟩ := HS.out _ hB1
  go_wp2_with fail
  refine (flat_any A B n m ca cb Pl M true _ hn hm hsz hrl (Lib.hid (HP.out _ (by (repeat (first | (with_reducible refine Below.drew ?_) | (with_reducible refine below_drewN ?_ _) | (with_reducible refine Below.alloc ?_ (by first | omega | (simp; done) | (simp; omega) | (simp at *; omega)) _) | (with_reducible refine Below.setCell ?_ (by first | omega | (simp; done) | (simp; omega) | (simp at *; omega)) _) | (with_reducible exact Below.refl _ _) | (with_reducible assumption) | (with_reducible refine Below.trans ?_ (Below.mono (by assumption) (by first | omega | (simp; done) | (simp; omega) | (simp at *; omega))))))))) (Lib.hid (HM.out _ (by (repeat (first | (with_reducible refine Below.drew ?_) | (with_reducible refine below_drewN ?_ _) | (with_reducible refine Below.alloc ?_ (by first | omega | (simp; done) | (simp; omega) | (simp at *; omega)) _) | (with_reducible refine Below.setCell ?_ (by first | omega | (simp; done) | (simp; omega) | (simp at *; omega)) _) | (with_reducible exact Below.refl _ _) | (with_reducible assumption) | (with_reducible refine Below.trans ?_ (Below.mono (by assumption) (by first | omega | (simp; done) | (simp; omega) | (simp at *; omega)))))))).mat) hF).mono ?_
  rintro e x2 ⟨rfl, hb2⟩
  have zz2 := hb2.size
  try simp at zz2
  have hc2 : Below x1.heap.size x1 x2 := (by (repeat (first | (with_reducible refine Below.drew ?_) | (with_reducible refine below_drewN ?_ _) | (with_reducible refine Below.alloc ?_ (by first | omega | (simp; done) | (simp; omega) | (simp at *; omega)) _) | (with_reducible refine Below.setCell ?_ (by first | omega | (simp; done) | (simp; omega) | (simp at *; omega)) _) | (with_reducible exact Below.refl _ _) | (with_reducible assumption) | (with_reducible refine Below.trans ?_ (Below.mono (by assumption) (by first | omega | (simp; done) | (simp; omega) | (simp at *; omega)))))))
  have hB2 : Below u.heap.size u x2 := hB1.trans (hc2.mono hB1.size)
  have zu2 := hB2.size
  clear hb2 hB1 zz1 zu1 hc1 c0 c1 r0 r1 r2 hBe hlt
  obtain ⟨c0, c1, r0, r1, r2, hBe, hlt⟩ := HS.out _ hB2
  go_wp2
  go_ret
  exact ⟨rfl, hBe⟩
set_option maxRecDepth 100000 in
set_option maxHeartbeats 4000000 in
theorem rn_many2 (A B Aq As D : Option Addr) (n m ca cb l l2 cq cs lw cd : Nat) (Pl : List ByteArray) (M : List (List Int)) (bg : Int) (Q Z : List Int) (W : List (List Rg)) (w : World) (hn : Hid (n = Pl.length)) (hm : Hid (m = M.length)) (hq : Hid (l = Q.length)) (hq2 : Hid (l2 = Z.length)) (hlw : Hid (lw = W.length)) (hsz : Hid (∀ s ∈ Pl, s.size ≤ 9223372036854775807)) (hrl : Hid (∀ k, k < m → (M.getD k []).length ≤ 9223372036854775807)) (HP0 : Hid (SlRows strV 1 w A Pl)) (HM0 : Hid (SlMatC w B M)) (HQ0 : Hid (SlRows intV 1 w Aq Q)) (HZ0 : Hid (SlRows intV 1 w As Z)) (HW0 : Hid (SlWnC w D W)) (hF : Hid (flatB Pl M = true)) (h1 : l ≤ 14) (h2 : 14 < l2) :
    Calls Tryz.prog 9 #[.agg #[.slice A n ca, .slice B m cb], .agg #[.int .i64 bg, .slice Aq l cq, .slice As l2 cs], .slice D lw cd] w fun e w' => e = .returned (.bool true) ∧ Below w.heap.size w w' := by
  have i1 : ¬ (14 : Int) < (l : Int) := by omega
  have i2 : (14 : Int) < (l2 : Int) := by omega
  go_enter Tryz.func9, Tryz.ntmps9
  go_upto_region 1 with (fail)
  refine wp_world (RuS A B Aq As n m ca cb l l2 cq cs bg w) ⟨by simp [go_sem, World.cell?_alloc_past], by simp [go_sem, World.cell?_alloc_past], by simp [go_sem, World.cell?_alloc_past], by simp [go_sem, World.cell?_alloc_past], by simp [go_sem, World.cell?_alloc_past], (by (repeat (first | (with_reducible refine Below.drew ?_) | (with_reducible refine below_drewN ?_ _) | (with_reducible refine Below.alloc ?_ (by first | omega | (simp; done) | (simp; omega) | (simp at *; omega)) _) | (with_reducible refine Below.setCell ?_ (by first | omega | (simp; done) | (simp; omega) | (simp at *; omega)) _) | (with_reducible exact Below.refl _ _) | (with_reducible assumption) | (with_reducible refine Below.trans ?_ (Below.mono (by assumption) (by first | omega | (simp; done) | (simp; omega) | (simp at *; omega))))))), by simp⟩ (fun u hu => ?_)
  have HU := Lib.hid hu
  have HS : Hid (∀ x, Below u.heap.size u x → RuS A B Aq As n m ca cb l l2 cq cs bg w x) := Lib.hid fun x hx => HU.out.below hx
  have HP : Hid (∀ x, Below u.heap.size u x → SlRows strV 1 x A Pl) := Lib.hid fun x hx => HP0.out.below (HU.out.below hx).be
  have HM : Hid (∀ x, Below u.heap.size u x → SlMatC x B M) := Lib.hid fun x hx => HM0.out.below (HU.out.below hx).be
  obtain ⟨c0, c1, r0, r1, r2, hBe, hlt⟩ := hu
  go_wp2_with fail
  refine (awake_any _).mono ?_
  rintro e x1 ⟨rfl, hb1⟩
  have zz1 := hb1.size
  try simp at zz1
  have hc1 : Below u.heap.size u x1 := (by (repeat (first | (with_reducible refine Below.drew ?_) | (with_reducible refine below_drewN ?_ _) | (with_reducible refine Below.alloc ?_ (by first | omega | (simp; done) | (simp; omega) | (simp at *; omega)) _) | (with_reducible refine Below.setCell ?_ (by first | omega | (simp; done) | (simp; omega) | (simp at *; omega)) _) | (with_reducible exact Below.refl _ _) | (with_reducible assumption) | (with_reducible refine Below.trans ?_ (Below.mono (by assumption) (by first | omega | (simp; done) | (simp; omega) | (simp at *; omega)))))))
  have hB1 : Below u.heap.size u x1 := hc1
  have zu1 := hB1.size
  clear hb1 c0 c1 r0 r1 r2 hBe hlt
  obtain ⟨c0, c1, r0, r1, r2, hBe, hlt⟩ := HS.out _ hB1
  go_wp2_with fail
  refine (flat_any A B n m ca cb Pl M true _ hn hm hsz hrl (Lib.hid (HP.out _ (by (repeat (first | (with_reducible refine Below.drew ?_) | (with_reducible refine below_drewN ?_ _) | (with_reducible refine Below.alloc ?_ (by first | omega | (simp; done) | (simp; omega) | (simp at *; omega)) _) | (with_reducible refine Below.setCell ?_ (by first | omega | (simp; done) | (simp; omega) | (simp at *; omega)) _) | (with_reducible exact Below.refl _ _) | (with_reducible assumption) | (with_reducible refine Below.trans ?_ (Below.mono (by assumption) (by first | omega | (simp; done) | (simp; omega) | (simp at *; omega))))))))) (Lib.hid (HM.out _ (by (repeat (first | (with_reducible refine Below.drew ?_) | (with_reducible refine below_drewN ?_ _) | (with_reducible refine Below.alloc ?_ (by first | omega | (simp; done) | (simp; omega) | (simp at *; omega)) _) | (with_reducible refine Below.setCell ?_ (by first | omega | (simp; done) | (simp; omega) | (simp at *; omega)) _) | (with_reducible exact Below.refl _ _) | (with_reducible assumption) | (with_reducible refine Below.trans ?_ (Below.mono (by assumption) (by first | omega | (simp; done) | (simp; omega) | (simp at *; omega)))))))).mat) hF).mono ?_
  rintro e x2 ⟨rfl, hb2⟩
  have zz2 := hb2.size
  try simp at zz2
  have hc2 : Below x1.heap.size x1 x2 := (by (repeat (first | (with_reducible refine Below.drew ?_) | (with_reducible refine below_drewN ?_ _) | (with_reducible refine Below.alloc ?_ (by first | omega | (simp; done) | (simp; omega) | (simp at *; omega)) _) | (with_reducible refine Below.setCell ?_ (by first | omega | (simp; done) | (simp; omega) | (simp at *; omega)) _) | (with_reducible exact Below.refl _ _) | (with_reducible assumption) | (with_reducible refine Below.trans ?_ (Below.mono (by assumption) (by first | omega | (simp; done) | (simp; omega) | (simp at *; omega)))))))
  have hB2 : Below u.heap.size u x2 := hB1.trans (hc2.mono hB1.size)
  have zu2 := hB2.size
  clear hb2 hB1 zz1 zu1 hc1 c0 c1 r0 r1 r2 hBe hlt
  obtain ⟨c0, c1, r0, r1, r2, hBe, hlt⟩ := HS.out _ hB2
  go_wp2
  go_ret
  exact ⟨rfl, hBe⟩
set_option maxRecDepth 100000 in
set_option maxHeartbeats 4000000 in
theorem rn_many3 (A B Aq As D : Option Addr) (n m ca cb l l2 cq cs lw cd : Nat) (Pl : List ByteArray) (M : List (List Int)) (bg : Int) (Q Z : List Int) (W : List (List Rg)) (w : World) (hn : Hid (n = Pl.length)) (hm : Hid (m = M.length)) (hq : Hid (l = Q.length)) (hq2 : Hid (l2 = Z.length)) (hlw : Hid (lw = W.length)) (hsz : Hid (∀ s ∈ Pl, s.size ≤ 9223372036854775807)) (hrl : Hid (∀ k, k < m → (M.getD k []).length ≤ 9223372036854775807)) (HP0 : Hid (SlRows strV 1 w A Pl)) (HM0 : Hid (SlMatC w B M)) (HQ0 : Hid (SlRows intV 1 w Aq Q)) (HZ0 : Hid (SlRows intV 1 w As Z)) (HW0 : Hid (SlWnC w D W)) (hF : Hid (flatB Pl M = true)) (h1 : l ≤ 14) (h2 : l2 ≤ 14) (h3 : 14 < lw) :
    Calls Tryz.prog 9 #[.agg #[.slice A n ca, .slice B m cb], .agg #[.int .i64 bg, .slice Aq l cq, .slice As l2 cs], .slice D lw cd] w fun e w' => e = .returned (.bool true) ∧ Below w.heap.size w w' := by
  have i1 : ¬ (14 : Int) < (l : Int) := by omega
  have i2 : ¬ (14 : Int) < (l2 : Int) := by omega
  have i3 : (14 : Int) < (lw : Int) := by omega
  go_enter Tryz.func9, Tryz.ntmps9
  go_upto_region 1 with (fail)
  refine wp_world (RuS A B Aq As n m ca cb l l2 cq cs bg w) ⟨by simp [go_sem, World.cell?_alloc_past], by simp [go_sem, World.cell?_alloc_past], by simp [go_sem, World.cell?_alloc_past], by simp [go_sem, World.cell?_alloc_past], by simp [go_sem, World.cell?_alloc_past], (by (repeat (first | (with_reducible refine Below.drew ?_) | (with_reducible refine below_drewN ?_ _) | (with_reducible refine Below.alloc ?_ (by first | omega | (simp; done) | (simp; omega) | (simp at *; omega)) _) | (with_reducible refine Below.setCell ?_ (by first | omega | (simp; done) | (simp; omega) | (simp at *; omega)) _) | (with_reducible exact Below.refl _ _) | (with_reducible assumption) | (with_reducible refine Below.trans ?_ (Below.mono (by assumption) (by first | omega | (simp; done) | (simp; omega) | (simp at *; omega))))))), by simp⟩ (fun u hu => ?_)
  have HU := Lib.hid hu
  have HS : Hid (∀ x, Below u.heap.size u x → RuS A B Aq As n m ca cb l l2 cq cs bg w x) := Lib.hid fun x hx => HU.out.below hx
  have HP : Hid (∀ x, Below u.heap.size u x → SlRows strV 1 x A Pl) := Lib.hid fun x hx => HP0.out.below (HU.out.below hx).be
  have HM : Hid (∀ x, Below u.heap.size u x → SlMatC x B M) := Lib.hid fun x hx => HM0.out.below (HU.out.below hx).be
  obtain ⟨c0, c1, r0, r1, r2, hBe, hlt⟩ := hu
  go_wp2_with fail
  refine (awake_any _).mono ?_
  rintro e x1 ⟨rfl, hb1⟩
  have zz1 := hb1.size
  try simp at zz1
  have hc1 : Below u.heap.size u x1 := (by (repeat (first | (with_reducible refine Below.drew ?_) | (with_reducible refine below_drewN ?_ _) | (with_reducible refine Below.alloc ?_ (by first | omega | (simp; done) | (simp; omega) | (simp at *; omega)) _) | (with_reducible refine Below.setCell ?_ (by first | omega | (simp; done) | (simp; omega) | (simp at *; omega)) _) | (with_reducible exact Below.refl _ _) | (with_reducible assumption) | (with_reducible refine Below.trans ?_ (Below.mono (by assumption) (by first | omega | (simp; done) | (simp; omega) | (simp at *; omega)))))))
  have hB1 : Below u.heap.size u x1 := hc1
  have zu1 := hB1.size
  clear hb1 c0 c1 r0 r1 r2 hBe hlt
  obtain ⟨c0, c1, r0, r1, r2, hBe, hlt⟩ := HS.out _ hB1
  go_wp2_with fail
  refine (flat_any A B n m ca cb Pl M true _ hn hm hsz hrl (Lib.hid (HP.out _ (by (repeat (first | (with_reducible refine Below.drew ?_) | (with_reducible refine below_drewN ?_ _) | (with_reducible refine Below.alloc ?_ (by first | omega | (simp; done) | (simp; omega) | (simp at *; omega)) _) | (with_reducible refine Below.setCell ?_ (by first | omega | (simp; done) | (simp; omega) | (simp at *; omega)) _) | (with_reducible exact Below.refl _ _) | (with_reducible assumption) | (with_reducible refine Below.trans ?_ (Below.mono (by assumption) (by first | omega | (simp; done) | (simp; omega) | (simp at *; omega))))))))) (Lib.hid (HM.out _ (by (repeat (first | (with_reducible refine Below.drew ?_) | (with_reducible refine below_drewN ?_ _) | (with_reducible refine Below.alloc ?_ (by first | omega | (simp; done) | (simp; omega) | (simp at *; omega)) _) | (with_reducible refine Below.setCell ?_ (by first | omega | (simp; done) | (simp; omega) | (simp at *; omega)) _) | (with_reducible exact Below.refl _ _) | (with_reducible assumption) | (with_reducible refine Below.trans ?_ (Below.mono (by assumption) (by first | omega | (simp; done) | (simp; omega) | (simp at *; omega)))))))).mat) hF).mono ?_
  rintro e x2 ⟨rfl, hb2⟩
  have zz2 := hb2.size
  try simp at zz2
  have hc2 : Below x1.heap.size x1 x2 := (by (repeat (first | (with_reducible refine Below.drew ?_) | (with_reducible refine below_drewN ?_ _) | (with_reducible refine Below.alloc ?_ (by first | omega | (simp; done) | (simp; omega) | (simp at *; omega)) _) | (with_reducible refine Below.setCell ?_ (by first | omega | (simp; done) | (simp; omega) | (simp at *; omega)) _) | (with_reducible exact Below.refl _ _) | (with_reducible assumption) | (with_reducible refine Below.trans ?_ (Below.mono (by assumption) (by first | omega | (simp; done) | (simp; omega) | (simp at *; omega)))))))
  have hB2 : Below u.heap.size u x2 := hB1.trans (hc2.mono hB1.size)
  have zu2 := hB2.size
  clear hb2 hB1 zz1 zu1 hc1 c0 c1 r0 r1 r2 hBe hlt
  obtain ⟨c0, c1, r0, r1, r2, hBe, hlt⟩ := HS.out _ hB2
  go_wp2
  go_ret
  exact ⟨rfl, hBe⟩
set_option maxRecDepth 100000 in
set_option maxHeartbeats 16000000 in
theorem rn_badc (A B Aq As D : Option Addr) (n m ca cb l l2 cq cs lw cd : Nat) (Pl : List ByteArray) (M : List (List Int)) (bg : Int) (Q Z : List Int) (W : List (List Rg)) (w : World) (hn : Hid (n = Pl.length)) (hm : Hid (m = M.length)) (hq : Hid (l = Q.length)) (hq2 : Hid (l2 = Z.length)) (hlw : Hid (lw = W.length)) (hsz : Hid (∀ s ∈ Pl, s.size ≤ 9223372036854775807)) (hrl : Hid (∀ k, k < m → (M.getD k []).length ≤ 9223372036854775807)) (HP0 : Hid (SlRows strV 1 w A Pl)) (HM0 : Hid (SlMatC w B M)) (HQ0 : Hid (SlRows intV 1 w Aq Q)) (HZ0 : Hid (SlRows intV 1 w As Z)) (HW0 : Hid (SlWnC w D W)) (hF : Hid (flatB Pl M = true)) (h1 : l ≤ 14) (h2 : l2 ≤ 14) (h3 : lw ≤ 14) (hl : n ≤ 14) (hm14 : m ≤ 14) (hcap : n ≤ ca) (hs6 : Hid (∀ s ∈ Pl, s.size ≤ 1000000)) (hrs : Hid (∀ k, k < m → (M.getD k []).length ≤ 1000000)) (CA : Hid (A = none → n = 0 ∧ ca = 0)) (CAq : Hid (Aq = none → l = 0 ∧ cq = 0)) (CAs : Hid (As = none → l2 = 0 ∧ cs = 0)) (E : Int) (hCE : Hid (chtE Pl M = E)) (hz : (E != 0) = true) :
    Calls Tryz.prog 9 #[.agg #[.slice A n ca, .slice B m cb], .agg #[.int .i64 bg, .slice Aq l cq, .slice As l2 cs], .slice D lw cd] w fun e w' => e = .returned (.bool true) ∧ Below w.heap.size w w' := by
  have i1 : ¬ (14 : Int) < (l : Int) := by omega
  have i2 : ¬ (14 : Int) < (l2 : Int) := by omega
  have i3 : ¬ (14 : Int) < (lw : Int) := by omega
  have iz : ¬ E = 0 := by simpa using hz
  have jz : (E == 0) = false := by simpa [bne] using hz
  have hE : Hid (crE Pl M bg Q Z = E) := Lib.hid (by unfold crE; rw [hCE.out, if_neg iz])
  obtain ⟨i0, hi, hz0', hz1', hz2'⟩ := info_partsS infoWl
  have HI := Lib.hid hi
  have HZI0 := Lib.hid hz0'
  have HZI1 := Lib.hid hz1'
  have HZI2 := Lib.hid hz2'
  clear hi hz0' hz1' hz2'
  go_enter Tryz.func9, Tryz.ntmps9
  go_upto_region 1 with (fail)
  refine wp_world (RuS A B Aq As n m ca cb l l2 cq cs bg w) ⟨by simp [go_sem, World.cell?_alloc_past], by simp [go_sem, World.cell?_alloc_past], by simp [go_sem, World.cell?_alloc_past], by simp [go_sem, World.cell?_alloc_past], by simp [go_sem, World.cell?_alloc_past], (by (repeat (first | (with_reducible refine Below.drew ?_) | (with_reducible refine below_drewN ?_ _) | (with_reducible refine Below.alloc ?_ (by first | omega | (simp; done) | (simp; omega) | (simp at *; omega)) _) | (with_reducible refine Below.setCell ?_ (by first | omega | (simp; done) | (simp; omega) | (simp at *; omega)) _) | (with_reducible exact Below.refl _ _) | (with_reducible assumption) | (with_reducible refine Below.trans ?_ (Below.mono (by assumption) (by first | omega | (simp; done) | (simp; omega) | (simp at *; omega))))))), by simp⟩ (fun u hu => ?_)
  have HU := Lib.hid hu
  have HS : Hid (∀ x, Below u.heap.size u x → RuS A B Aq As n m ca cb l l2 cq cs bg w x) := Lib.hid fun x hx => HU.out.below hx
  have HP : Hid (∀ x, Below u.heap.size u x → SlRows strV 1 x A Pl) := Lib.hid fun x hx => HP0.out.below (HU.out.below hx).be
  have HM : Hid (∀ x, Below u.heap.size u x → SlMatC x B M) := Lib.hid fun x hx => HM0.out.below (HU.out.below hx).be
  have HQ : Hid (∀ x, Below u.heap.size u x → SlRows intV 1 x Aq Q) := Lib.hid fun x hx => HQ0.out.below (HU.out.below hx).be
  have HZ : Hid (∀ x, Below u.heap.size u x → SlRows intV 1 x As Z) := Lib.hid fun x hx => HZ0.out.below (HU.out.below hx).be
  have HW : Hid (∀ x, Below u.heap.size u x → SlWnC x D W) := Lib.hid fun x hx => HW0.out.below (HU.out.below hx).be
  obtain ⟨c0, c1, r0, r1, r2, hBe, hlt⟩ := hu
  go_wp2_with fail
  refine (awake_any _).mono ?_
  rintro e x1 ⟨rfl, hb1⟩
  have zz1 := hb1.size
  try simp at zz1
  have hc1 : Below u.heap.size u x1 := (by (repeat (first | (with_reducible refine Below.drew ?_) | (with_reducible refine below_drewN ?_ _) | (with_reducible refine Below.alloc ?_ (by first | omega | (simp; done) | (simp; omega) | (simp at *; omega)) _) | (with_reducible refine Below.setCell ?_ (by first | omega | (simp; done) | (simp; omega) | (simp at *; omega)) _) | (with_reducible exact Below.refl _ _) | (with_reducible assumption) | (with_reducible refine Below.trans ?_ (Below.mono (by assumption) (by first | omega | (simp; done) | (simp; omega) | (simp at *; omega)))))))
  have hB1 : Below u.heap.size u x1 := hc1
  have zu1 := hB1.size
  clear hb1 c0 c1 r0 r1 r2 hBe hlt
  obtain ⟨c0, c1, r0, r1, r2, hBe, hlt⟩ := HS.out _ hB1
  go_wp2_with fail
  refine (flat_any A B n m ca cb Pl M true _ hn hm hsz hrl (Lib.hid (HP.out _ (by (repeat (first | (with_reducible refine Below.drew ?_) | (with_reducible refine below_drewN ?_ _) | (with_reducible refine Below.alloc ?_ (by first | omega | (simp; done) | (simp; omega) | (simp at *; omega)) _) | (with_reducible refine Below.setCell ?_ (by first | omega | (simp; done) | (simp; omega) | (simp at *; omega)) _) | (with_reducible exact Below.refl _ _) | (with_reducible assumption) | (with_reducible refine Below.trans ?_ (Below.mono (by assumption) (by first | omega | (simp; done) | (simp; omega) | (simp at *; omega))))))))) (Lib.hid (HM.out _ (by (repeat (first | (with_reducible refine Below.drew ?_) | (with_reducible refine below_drewN ?_ _) | (with_reducible refine Below.alloc ?_ (by first | omega | (simp; done) | (simp; omega) | (simp at *; omega)) _) | (with_reducible refine Below.setCell ?_ (by first | omega | (simp; done) | (simp; omega) | (simp at *; omega)) _) | (with_reducible exact Below.refl _ _) | (with_reducible assumption) | (with_reducible refine Below.trans ?_ (Below.mono (by assumption) (by first | omega | (simp; done) | (simp; omega) | (simp at *; omega)))))))).mat) hF).mono ?_
  rintro e x2 ⟨rfl, hb2⟩
  have zz2 := hb2.size
  try simp at zz2
  have hc2 : Below x1.heap.size x1 x2 := (by (repeat (first | (with_reducible refine Below.drew ?_) | (with_reducible refine below_drewN ?_ _) | (with_reducible refine Below.alloc ?_ (by first | omega | (simp; done) | (simp; omega) | (simp at *; omega)) _) | (with_reducible refine Below.setCell ?_ (by first | omega | (simp; done) | (simp; omega) | (simp at *; omega)) _) | (with_reducible exact Below.refl _ _) | (with_reducible assumption) | (with_reducible refine Below.trans ?_ (Below.mono (by assumption) (by first | omega | (simp; done) | (simp; omega) | (simp at *; omega)))))))
  have hB2 : Below u.heap.size u x2 := hB1.trans (hc2.mono hB1.size)
  have zu2 := hB2.size
  clear hb2 hB1 zz1 zu1 hc1 c0 c1 r0 r1 r2 hBe hlt
  obtain ⟨c0, c1, r0, r1, r2, hBe, hlt⟩ := HS.out _ hB2
  go_wp2
  go_loopw [7, 8] (fun t i wr => ∃ (k : Nat) (G : Option Addr) (cg : Nat) (vals : List Value), i = .int .i64 k ∧ k ≤ lw ∧ t = .slice G k cg ∧ Hid (wr.ownsRow u.heap.size 32 1 (.slice G k cg) k vals) ∧ Hid (CpW W G k vals wr) ∧ Hid (∀ j, j < k → (W.getD j []).length ≤ 5) ∧ Below u.heap.size u wr) (fun _ i _ => lw - (intOf i).toNat)
  case atStart => exact ⟨0, none, 0, [], rfl, by omega, rfl, Lib.hid ⟨rfl, .inl ⟨rfl, rfl⟩⟩, Lib.hid (CpW.nil _ _ _), Lib.hid (fun j hj => by omega), (by (repeat (first | (with_reducible refine Below.drew ?_) | (with_reducible refine below_drewN ?_ _) | (with_reducible refine Below.alloc ?_ (by first | omega | (simp; done) | (simp; omega) | (simp at *; omega)) _) | (with_reducible refine Below.setCell ?_ (by first | omega | (simp; done) | (simp; omega) | (simp at *; omega)) _) | (with_reducible exact Below.refl _ _) | (with_reducible assumption) | (with_reducible refine Below.trans ?_ (Below.mono (by assumption) (by first | omega | (simp; done) | (simp; omega) | (simp at *; omega)))))))⟩
  case round =>
    obtain ⟨k, G, cg, vals, rfl, hk, rfl, HO, HC, H5, hB⟩ := hrel
    clear hB2 zz2 zu2 hc2 c0 c1 r0 r1 r2 hBe hlt
    obtain ⟨c0, c1, r0, r1, r2, hBe, hlt⟩ := HS.out _ hB
    have hsz' := hB.size
    by_cases hkm : k < lw
    · have km : (k : Int) < (lw : Int) := by omega
      have hkl : k < W.length := by have := hlw.out; omega
      obtain ⟨b, off, eD, hbl, hMt⟩ : ∃ b off, D = some ⟨b, off, none⟩ ∧ b < wr.heap.size ∧ _ := by
        rcases HW.out _ hB with h0 | ⟨b, off, e1, e2, e3⟩
        · rw [h0] at hkl; simp at hkl
        · exact ⟨b, off, e1, e2, e3⟩
      subst eD
      obtain ⟨C, cc, h1, h2, h3⟩ := hMt k hkl
      obtain ⟨R, hR⟩ : ∃ R, Hid (W.getD k [] = R) := ⟨_, Lib.hid rfl⟩
      rw [hR.out] at h1 h2
      have hCn : Hid (C = none → R.length = 0 ∧ cc = 0) := Lib.hid fun h => ⟨by rw [h] at h2; rw [gr_none h2]; rfl, h3 h⟩
      clear hMt h3
      by_cases h5 : R.length ≤ 5
      · have q5 : ¬ (5 : Int) < (R.length : Int) := by omega
        go_wp2_with fail
        refine (copyRgV_is R C cc R.length _ (Lib.hid rfl) (by omega) h2 hCn).mono ?_
        rintro e y1 ⟨Gy, cy, rfl, hS1, _, hge, hb1⟩
        have HS1 := Lib.hid hS1
        have HGE := Lib.hid hge
        have HB1 := Lib.hid hb1
        have z1 := hb1.size
        have HO1 := Lib.hid (own_below HO.out hb1 (Nat.le_refl _))
        have hBX : Below u.heap.size u y1 := hB.trans (hb1.mono hsz')
        clear hS1 hge hb1 h1 h2 c0 c1 r0 r1 r2 hBe hlt
        go_wp2_with (at_builtin; refine wpList_append_own_at _ rfl _ _ 93 rfl u.heap.size 32 i0 (.slice none 0 0) 1 24 Tryz.underlying93 HI.out HZI0.out HZI1.out HZI2.out rfl (by decide) _ _ _ rfl (own_below (N := y1.heap.size) HO1.out (by exact (by (repeat (first | (with_reducible refine Below.drew ?_) | (with_reducible refine below_drewN ?_ _) | (with_reducible refine Below.alloc ?_ (by first | omega | (simp; done) | (simp; omega) | (simp at *; omega)) _) | (with_reducible refine Below.setCell ?_ (by first | omega | (simp; done) | (simp; omega) | (simp at *; omega)) _) | (with_reducible exact Below.refl _ _) | (with_reducible assumption) | (with_reducible refine Below.trans ?_ (Below.mono (by assumption) (by first | omega | (simp; done) | (simp; omega) | (simp at *; omega)))))))) (Nat.le_refl _)) ⟨y1.heap.size, 0, none⟩ 1 1 [.slice Gy R.length cy] rfl rfl ?b0 ?b1 ?b2 ?b3 ?b4 ?_)
        case b0 =>
          intro j v hj
          match j, hj with
          | 0, hj => simp at hj; subst hj; simp [Addr.add, go_sem]
        case b1 => intro v hv; simp at hv; subst hv; rfl
        case b2 => unfold maxLen; omega
        case b3 => omega
        case b4 => first | omega | (simp; omega)
        intro v' x5 hown hgrow hnn hblk
        have hB5 : Below u.heap.size u x5 := Below.grown (by exact (by (repeat (first | (with_reducible refine Below.drew ?_) | (with_reducible refine below_drewN ?_ _) | (with_reducible refine Below.alloc ?_ (by first | omega | (simp; done) | (simp; omega) | (simp at *; omega)) _) | (with_reducible refine Below.setCell ?_ (by first | omega | (simp; done) | (simp; omega) | (simp at *; omega)) _) | (with_reducible exact Below.refl _ _) | (with_reducible assumption) | (with_reducible refine Below.trans ?_ (Below.mono (by assumption) (by first | omega | (simp; done) | (simp; omega) | (simp at *; omega)))))))) hgrow (by simp; omega) (fun r hr => (own_block HO.out r hr).1)
        have HGR := Lib.hid hgrow
        have HBK := Lib.hid hblk
        have HOW := Lib.hid hown
        clear hown hgrow hnn hblk
        rcases HOW.out.2 with ⟨h9, h8⟩ | ⟨g5, cap5, cur5, hv5, hg5, hh5, _⟩
        · omega
        subst hv5
        have hgo : ∀ g, G = some g → g.block < wr.heap.size := fun g hg => by
          rcases HO.out.2 with ⟨h9, _⟩ | ⟨g9, _, _, hv9, _, hh9, _⟩
          · rw [hg] at h9; cases h9
          · rw [hg] at hv9; cases hv9; exact (Array.getElem?_eq_some_iff.1 hh9).1
        have hng : ∀ b : Nat, b < y1.heap.size → (∀ g, G = some g → b ≠ g.block) → b ≠ g5 := fun b hb hne h9 => by
          rcases HBK.out with h | h
          · cases hG : G with
            | none => rw [hG] at h; simp [Value.ownBlock] at h
            | some g => rw [hG] at h; simp [Value.ownBlock] at h; exact hne g hG (by omega)
          · simp [Value.ownBlock] at h; omega
        have hgb : ∀ b, b < y1.heap.size → (∀ g, G = some g → b ≠ g.block) → x5.heap[b]? = _ := fun b hb hne => HGR.out.block b (by simp; omega) (fun hh => by
          cases hG : G with
          | none => rw [hG] at hh; simp [Value.ownBlock] at hh
          | some g => rw [hG] at hh; simp [Value.ownBlock] at hh; exact hne g hG hh)
        have hz5 : y1.heap.size ≤ x5.heap.size := by have := HGR.out.size; simp at this; omega
        have HC5 := Lib.hid (HC.out.push (c1 := cy) hR.out HB1.out HS1.out HGE.out (show Below y1.heap.size y1 _ from (Below.refl _ _).alloc (Nat.le_refl _) _) hgo hgb hz5 hng)
        have H55 : Hid (∀ j, j < k + 1 → (W.getD j []).length ≤ 5) := Lib.hid fun j hj => by
          by_cases e : j = k
          · rw [e, hR.out]; exact h5
          · exact H5.out j (by omega)
        clear hgo hng hgb
        go_wp2
        go_roundw
        case rel => exact ⟨k + 1, some ⟨g5, 0, none⟩, cap5, _, by first | rfl | go_num, by omega, rfl, Lib.hid HOW.out, HC5, H55, hB5⟩
        case measure => (simp [intOf]) <;> omega
      · have q5 : (5 : Int) < (R.length : Int) := by omega
        go_wp2
        go_ret
        exact ⟨rfl, hBe⟩
    · have hkk : lw = k := by omega
      subst hkk
      have kn : ¬ (lw : Int) < (lw : Int) := by omega
      have HWG : Hid (SlWn wr G W) := Lib.hid (cpw_wn hlw.out HO.out HC.out)
      clear HO HC
      go_upto_region 12 with (fail)
      have HK12 : Hid (∀ y, Below wr.heap.size wr y → y.cell? ⟨w.heap.size + 1, 0, none⟩ = some (.int .i64 bg) ∧ y.cell? ⟨w.heap.size + 1, 1, none⟩ = some (.slice Aq l cq) ∧ y.cell? ⟨w.heap.size + 1, 2, none⟩ = some (.slice As l2 cs)) := Lib.hid fun y hy => (let h := HS.out _ (hB.trans (hy.mono hB.size)); ⟨h.r0, h.r1, h.r2⟩)
      have HQ12 : Hid (∀ y, Below wr.heap.size wr y → SlRows intV 1 y Aq Q) := Lib.hid fun y hy => HQ.out _ (hB.trans (hy.mono hB.size))
      have HZ12 : Hid (∀ y, Below wr.heap.size wr y → SlRows intV 1 y As Z) := Lib.hid fun y hy => HZ.out _ (hB.trans (hy.mono hB.size))
      have hw12 : w.heap.size + 1 < wr.heap.size := hlt
      go_cut [9] from 13 (fun s9 wx => RuR bg Q Z l l2 wr s9 wx)
      case first =>
        clear c0 c1 r0 r1 r2 hBe hlt HS HP HM HQ HZ HW HU HWG hsz'
        refine wp_region_held_drew (S := (fun w' => w'.cell? ⟨w.heap.size + 1, 0, none⟩ = some (.int .i64 bg) ∧ w'.cell? ⟨w.heap.size + 1, 1, none⟩ = some (.slice Aq l cq) ∧ w'.cell? ⟨w.heap.size + 1, 2, none⟩ = some (.slice As l2 cs))) (by kernel_rfl) (by exact HK12.out _ (Below.refl _ _).drew) (fun hHeld => ?_)
        have hT0 : Below wr.heap.size wr wr.drew := (Below.refl _ _).drew
        generalize hdr : wr.drew = v0 at *
        clear hdr
        refine tkH 0 ⟨some 61, _, _, _, _, _⟩ ?_ rfl ?_ (by assumption) ?_
        rotate_left
        · (intro w hSw; (try dsimp only at hSw); go_simp; all_goals with_reducible rfl)
        try simp only [Act.put, sA, sB, sC]
        refine tkH 1 ⟨some 62, _, _, _, _, _⟩ ?_ rfl ?_ (by assumption) ?_
        rotate_left
        · (intro w hSw; (try dsimp only at hSw); go_simp; all_goals with_reducible rfl)
        try simp only [Act.put, sA, sB, sC]
        refine tkH 2 ⟨some 63, _, _, _, _, _⟩ ?_ rfl ?_ (by assumption) ?_
        rotate_left
        · (intro w hSw; (try dsimp only at hSw); go_simp; all_goals with_reducible rfl)
        try simp only [Act.put, sA, sB, sC]
        refine tkH 3 ⟨some 64, _, _, _, _, _⟩ ?_ rfl ?_ (by assumption) ?_
        rotate_left
        · (intro w hSw; (try dsimp only at hSw); go_simp; all_goals with_reducible rfl)
        try simp only [Act.put, sA, sB, sC]
        refine tkH 5 ⟨some 66, _, _, _, _, _⟩ ?_ rfl ?_ (by assumption) ?_
        rotate_left
        · (intro w hSw; (try dsimp only at hSw); go_simp; all_goals with_reducible rfl)
        try simp only [Act.put, sA, sB, sC]
        refine tkH 6 ⟨some 67, _, _, _, _, _⟩ ?_ rfl ?_ (by assumption) ?_
        rotate_left
        · (intro w hSw; (try dsimp only at hSw); go_simp; all_goals with_reducible rfl)
        try simp only [Act.put, sA, sB, sC]
        refine wpAnyH_ready (rs := [4, 9]) (by kernel_rfl) (by simp) ?_
        refine AllReadyH.cons rfl (fun K hK => ?_) (AllReadyH.cons rfl (fun K hK => ?_) (AllReadyH.nil))
        · skip
          go_simp
          refine (copyInt_is Q Aq cq l _ hq (by omega) (HQ12.out _ hT0) CAq).mono ?_
          rintro e v1 ⟨G1, k1, rfl, hS1, _, hge1, hb0⟩
          have hT1 : Below wr.heap.size wr v1 := hT0.trans (hb0.mono hT0.size)
          have HG1 := Lib.hid hS1
          clear hS1 hge1 hb0
          go_wp2_with fail
          refine hK.out _ _ (HK12.out _ hT1) (fun hHeld => ?_)
          clear hK K
          try simp only [Act.put, sA, sB, sC]
          refine wpAnyH_ready (rs := [7, 9]) (by kernel_rfl) (by simp) ?_
          refine AllReadyH.cons rfl (fun K hK => ?_) (AllReadyH.cons rfl (fun K hK => ?_) (AllReadyH.nil))
          · skip
            go_simp
            refine (copyInt_is Z As cs l2 _ hq2 (by omega) (HZ12.out _ hT1) CAs).mono ?_
            rintro e v2 ⟨G2, k2, rfl, hS2, _, hge2, hb1⟩
            have hT2 : Below wr.heap.size wr v2 := hT1.trans (hb1.mono hT1.size)
            replace HG1 := Lib.hid (HG1.out.below hb1)
            have HG2 := Lib.hid hS2
            clear hS2 hge2 hb1
            go_wp2_with fail
            refine hK.out _ _ (HK12.out _ hT2) (fun hHeld => ?_)
            clear hK K
            try simp only [Act.put, sA, sB, sC]
            refine tkH 8 ⟨some 69, _, _, _, _, _⟩ ?_ rfl ?_ (by assumption) ?_
            rotate_left
            · (intro w hSw; (try dsimp only at hSw); go_simp; all_goals with_reducible rfl)
            try simp only [Act.put, sA, sB, sC]
            refine wpAnyH_ready (rs := [9]) (by kernel_rfl) (by simp) ?_
            refine AllReadyH.cons rfl (fun K hK => ?_) (AllReadyH.nil)
            go_simp
            go_wp2_with fail
            refine hK.out _ _ (HK12.out _ (hT2.alloc hT2.size _)) (fun hHeld => ?_)
            clear hK K
            try simp only [Act.put, sA, sB, sC]
            have NX3 := NwR.made wr.heap.size v2 hT2.size
            obtain ⟨bx, ebx⟩ : ∃ x, v2.heap.size = x := ⟨_, rfl⟩
            generalize hq2 : v2.alloc (.cells #[.int .i64 0, .slice none 0 0, .slice none 0 0] 92) = v3 at *
            have hb2 : Below v2.heap.size v2 v3 := by rw [← hq2]; exact (Below.refl _ _).alloc (Nat.le_refl _) _
            have hT3 : Below wr.heap.size wr v3 := hT2.trans (hb2.mono hT2.size)
            have O1 := Lib.hid (Off.lt HG1.out (Nat.le_of_eq ebx))
            replace HG1 := Lib.hid (HG1.out.below hb2)
            have O2 := Lib.hid (Off.lt HG2.out (Nat.le_of_eq ebx))
            replace HG2 := Lib.hid (HG2.out.below hb2)
            rw [ebx] at NX3 ⊢
            have HN := Lib.hid NX3
            clear NX3 hq2 hb2
            refine wpAnyH_ready (rs := [10]) (by kernel_rfl) (by simp) ?_
            refine AllReadyH.cons rfl (fun K hK => ?_) (AllReadyH.nil)
            have HF := RuR.stored (bg := bg) (l := l) (l2 := l2) (k1 := k1) (k2 := k2) (u := wr) HN.out HG1.out HG2.out O1.out O2.out hT3
            have HFH := Lib.hid HF
            clear HF
            obtain ⟨q0, q1, q2, qf, ql, qg⟩ := HN.out
            obtain ⟨y0, y1, y2⟩ := HK12.out _ hT3
            have nw : w.heap.size + 1 ≠ bx := by omega
            have nw2 : bx ≠ w.heap.size + 1 := by omega
            go_simp
            go_wp2_with fail
            refine hK.out _ _ (by simp [go_sem, World.cell?_alloc_past, *]) (fun hHeld => ?_)
            clear hK K
            try simp only [Act.put, sA, sB, sC]
            refine wpAnyH_done (by kernel_rfl) ?_ _
            go_wp2_with fail
            go_meet
            exact HFH.out
          · skip
            go_simp
            go_wp2_with fail
            refine hK.out _ _ (HK12.out _ (hT1.alloc hT1.size _)) (fun hHeld => ?_)
            clear hK K
            try simp only [Act.put, sA, sB, sC]
            have NX2 := NwR.made wr.heap.size v1 hT1.size
            obtain ⟨bx, ebx⟩ : ∃ x, v1.heap.size = x := ⟨_, rfl⟩
            generalize hq1 : v1.alloc (.cells #[.int .i64 0, .slice none 0 0, .slice none 0 0] 92) = v2 at *
            have hb1 : Below v1.heap.size v1 v2 := by rw [← hq1]; exact (Below.refl _ _).alloc (Nat.le_refl _) _
            have hT2 : Below wr.heap.size wr v2 := hT1.trans (hb1.mono hT1.size)
            have O1 := Lib.hid (Off.lt HG1.out (Nat.le_of_eq ebx))
            replace HG1 := Lib.hid (HG1.out.below hb1)
            rw [ebx] at NX2 ⊢
            have HN := Lib.hid NX2
            clear NX2 hq1 hb1
            refine wpAnyH_ready (rs := [7]) (by kernel_rfl) (by simp) ?_
            refine AllReadyH.cons rfl (fun K hK => ?_) (AllReadyH.nil)
            go_simp
            refine (copyInt_is Z As cs l2 _ hq2 (by omega) (HZ12.out _ hT2) CAs).mono ?_
            rintro e v3 ⟨G2, k2, rfl, hS2, _, hge2, hb2⟩
            have hT3 : Below wr.heap.size wr v3 := hT2.trans (hb2.mono hT2.size)
            have O2 : Hid (Off bx G2 _) := Lib.hid (Off.ge (L := Z) hge2 HN.out.lt)
            replace HN := Lib.hid (HN.out.below hb2)
            replace HG1 := Lib.hid (HG1.out.below hb2)
            have HG2 := Lib.hid hS2
            clear hS2 hge2 hb2
            go_wp2_with fail
            refine hK.out _ _ (HK12.out _ hT3) (fun hHeld => ?_)
            clear hK K
            try simp only [Act.put, sA, sB, sC]
            refine tkH 8 ⟨some 69, _, _, _, _, _⟩ ?_ rfl ?_ (by assumption) ?_
            rotate_left
            · (intro w hSw; (try dsimp only at hSw); go_simp; all_goals with_reducible rfl)
            try simp only [Act.put, sA, sB, sC]
            refine wpAnyH_ready (rs := [10]) (by kernel_rfl) (by simp) ?_
            refine AllReadyH.cons rfl (fun K hK => ?_) (AllReadyH.nil)
            have HF := RuR.stored (bg := bg) (l := l) (l2 := l2) (k1 := k1) (k2 := k2) (u := wr) HN.out HG1.out HG2.out O1.out O2.out hT3
            have HFH := Lib.hid HF
            clear HF
            obtain ⟨q0, q1, q2, qf, ql, qg⟩ := HN.out
            obtain ⟨y0, y1, y2⟩ := HK12.out _ hT3
            have nw : w.heap.size + 1 ≠ bx := by omega
            have nw2 : bx ≠ w.heap.size + 1 := by omega
            go_simp
            go_wp2_with fail
            refine hK.out _ _ (by simp [go_sem, World.cell?_alloc_past, *]) (fun hHeld => ?_)
            clear hK K
            try simp only [Act.put, sA, sB, sC]
            refine wpAnyH_done (by kernel_rfl) ?_ _
            go_wp2_with fail
            go_meet
            exact HFH.out
        · skip
          go_simp
          go_wp2_with fail
          refine hK.out _ _ (HK12.out _ (hT0.alloc hT0.size _)) (fun hHeld => ?_)
          clear hK K
          try simp only [Act.put, sA, sB, sC]
          have NX1 := NwR.made wr.heap.size v0 hT0.size
          obtain ⟨bx, ebx⟩ : ∃ x, v0.heap.size = x := ⟨_, rfl⟩
          generalize hq0 : v0.alloc (.cells #[.int .i64 0, .slice none 0 0, .slice none 0 0] 92) = v1 at *
          have hb0 : Below v0.heap.size v0 v1 := by rw [← hq0]; exact (Below.refl _ _).alloc (Nat.le_refl _) _
          have hT1 : Below wr.heap.size wr v1 := hT0.trans (hb0.mono hT0.size)
          rw [ebx] at NX1 ⊢
          have HN := Lib.hid NX1
          clear NX1 hq0 hb0
          refine wpAnyH_ready (rs := [4]) (by kernel_rfl) (by simp) ?_
          refine AllReadyH.cons rfl (fun K hK => ?_) (AllReadyH.nil)
          go_simp
          refine (copyInt_is Q Aq cq l _ hq (by omega) (HQ12.out _ hT1) CAq).mono ?_
          rintro e v2 ⟨G1, k1, rfl, hS1, _, hge1, hb1⟩
          have hT2 : Below wr.heap.size wr v2 := hT1.trans (hb1.mono hT1.size)
          have O1 : Hid (Off bx G1 _) := Lib.hid (Off.ge (L := Q) hge1 HN.out.lt)
          replace HN := Lib.hid (HN.out.below hb1)
          have HG1 := Lib.hid hS1
          clear hS1 hge1 hb1
          go_wp2_with fail
          refine hK.out _ _ (HK12.out _ hT2) (fun hHeld => ?_)
          clear hK K
          try simp only [Act.put, sA, sB, sC]
          refine wpAnyH_ready (rs := [7]) (by kernel_rfl) (by simp) ?_
          refine AllReadyH.cons rfl (fun K hK => ?_) (AllReadyH.nil)
          go_simp
          refine (copyInt_is Z As cs l2 _ hq2 (by omega) (HZ12.out _ hT2) CAs).mono ?_
          rintro e v3 ⟨G2, k2, rfl, hS2, _, hge2, hb2⟩
          have hT3 : Below wr.heap.size wr v3 := hT2.trans (hb2.mono hT2.size)
          have O2 : Hid (Off bx G2 _) := Lib.hid (Off.ge (L := Z) hge2 HN.out.lt)
          replace HN := Lib.hid (HN.out.below hb2)
          replace HG1 := Lib.hid (HG1.out.below hb2)
          have HG2 := Lib.hid hS2
          clear hS2 hge2 hb2
          go_wp2_with fail
          refine hK.out _ _ (HK12.out _ hT3) (fun hHeld => ?_)
          clear hK K
          try simp only [Act.put, sA, sB, sC]
          refine tkH 8 ⟨some 69, _, _, _, _, _⟩ ?_ rfl ?_ (by assumption) ?_
          rotate_left
          · (intro w hSw; (try dsimp only at hSw); go_simp; all_goals with_reducible rfl)
          try simp only [Act.put, sA, sB, sC]
          refine wpAnyH_ready (rs := [10]) (by kernel_rfl) (by simp) ?_
          refine AllReadyH.cons rfl (fun K hK => ?_) (AllReadyH.nil)
          have HF := RuR.stored (bg := bg) (l := l) (l2 := l2) (k1 := k1) (k2 := k2) (u := wr) HN.out HG1.out HG2.out O1.out O2.out hT3
          have HFH := Lib.hid HF
          clear HF
          obtain ⟨q0, q1, q2, qf, ql, qg⟩ := HN.out
          obtain ⟨y0, y1, y2⟩ := HK12.out _ hT3
          have nw : w.heap.size + 1 ≠ bx := by omega
          have nw2 : bx ≠ w.heap.size + 1 := by omega
          go_simp
          go_wp2_with fail
          refine hK.out _ _ (by simp [go_sem, World.cell?_alloc_past, *]) (fun hHeld => ?_)
          clear hK K
          try simp only [Act.put, sA, sB, sC]
          refine wpAnyH_done (by kernel_rfl) ?_ _
          go_wp2_with fail
          go_meet
          exact HFH.out
      case rest =>
        obtain ⟨bx, G1, G2, k1, k2, rfl, HX0, hBc⟩ := hcut
        have hcu : Below u.heap.size u wc := hB.trans (hBc.mono hB.size)
        have HX : Hid (∀ y, Below wc.heap.size wc y → RuS A B Aq As n m ca cb l l2 cq cs bg w y ∧ RuX bg Q Z l l2 bx G1 G2 k1 k2 y ∧ SlWn y G W) := Lib.hid fun y hy => ⟨HS.out _ (hcu.trans (hy.mono hcu.size)), HX0.below hy, (HWG.out.below hBc).below hy⟩
        replace HP : Hid (∀ y, Below wc.heap.size wc y → SlRows strV 1 y A Pl) := Lib.hid (by have h := HP.out; exact fun y hy => h _ (hcu.trans (hy.mono hcu.size)))
        replace HM : Hid (∀ y, Below wc.heap.size wc y → SlMatC y B M) := Lib.hid (by have h := HM.out; exact fun y hy => h _ (hcu.trans (hy.mono hcu.size)))
        replace HQ : Hid (∀ y, Below wc.heap.size wc y → SlRows intV 1 y Aq Q) := Lib.hid (by have h := HQ.out; exact fun y hy => h _ (hcu.trans (hy.mono hcu.size)))
        replace HZ : Hid (∀ y, Below wc.heap.size wc y → SlRows intV 1 y As Z) := Lib.hid (by have h := HZ.out; exact fun y hy => h _ (hcu.trans (hy.mono hcu.size)))
        replace HW : Hid (∀ y, Below wc.heap.size wc y → SlWnC y D W) := Lib.hid (by have h := HW.out; exact fun y hy => h _ (hcu.trans (hy.mono hcu.size)))
        clear c0 c1 r0 r1 r2 hBe hlt HS HK12 HQ12 HZ12 hw12 HU HWG hsz' HX0 hBc hcu hB kn hkm
        obtain ⟨⟨c0, c1, r0, r1, r2, hBe, hlt⟩, ⟨d0, d1, d2, lx, g1, g2⟩, hWn⟩ := HX.out _ (Below.refl _ _)
        go_upto_region 13 with (fail)
        refine wp_region_held_drew (S := (fun w' => w'.cell? ⟨w.heap.size, 0, none⟩ = some (.slice A n ca) ∧ w'.cell? ⟨w.heap.size, 1, none⟩ = some (.slice B m cb) ∧ w'.cell? ⟨bx, 0, none⟩ = some (.int .i64 bg) ∧ w'.cell? ⟨bx, 1, none⟩ = some (.slice G1 l k1) ∧ w'.cell? ⟨bx, 2, none⟩ = some (.slice G2 l2 k2))) (by kernel_rfl) (by simp [go_sem, World.cell?_alloc_past, *]) (fun hHeld => ?_)
        refine tkH 0 ⟨some 71, _, _, _, _, _⟩ ?_ rfl ?_ (by assumption) ?_
        rotate_left
        · (intro w hSw; (try dsimp only at hSw); go_simp; all_goals with_reducible rfl)
        try simp only [Act.put, sA, sB, sC]
        refine tkH 2 ⟨some 73, _, _, _, _, _⟩ ?_ rfl ?_ (by assumption) ?_
        rotate_left
        · (intro w hSw; (try dsimp only at hSw); go_simp; all_goals with_reducible rfl)
        try simp only [Act.put, sA, sB, sC]
        refine wpAnyH_ready (rs := [1]) (by kernel_rfl) (by simp) ?_
        refine AllReadyH.cons rfl (fun K hK => ?_) AllReadyH.nil
        go_simp
        refine (chart_is A B n m ca cb Pl M _ hn hm (by omega) (by omega) hrs CA (Lib.hid (HP.out _ (by (repeat (first | (with_reducible refine Below.drew ?_) | (with_reducible refine below_drewN ?_ _) | (with_reducible refine Below.alloc ?_ (by first | omega | (simp; done) | (simp; omega) | (simp at *; omega)) _) | (with_reducible refine Below.setCell ?_ (by first | omega | (simp; done) | (simp; omega) | (simp at *; omega)) _) | (with_reducible exact Below.refl _ _) | (with_reducible assumption) | (with_reducible refine Below.trans ?_ (Below.mono (by assumption) (by first | omega | (simp; done) | (simp; omega) | (simp at *; omega))))))))) (Lib.hid (HM.out _ (by (repeat (first | (with_reducible refine Below.drew ?_) | (with_reducible refine below_drewN ?_ _) | (with_reducible refine Below.alloc ?_ (by first | omega | (simp; done) | (simp; omega) | (simp at *; omega)) _) | (with_reducible refine Below.setCell ?_ (by first | omega | (simp; done) | (simp; omega) | (simp at *; omega)) _) | (with_reducible exact Below.refl _ _) | (with_reducible assumption) | (with_reducible refine Below.trans ?_ (Below.mono (by assumption) (by first | omega | (simp; done) | (simp; omega) | (simp at *; omega)))))))))).mono ?_
        rintro e x1 ⟨GC, HC, gc, hc, rfl, hSP, hSM, hb1⟩
        have zz1 := hb1.size
        try simp at zz1
        have hc1 : Below wc.heap.size wc x1 := (by (repeat (first | (with_reducible refine Below.drew ?_) | (with_reducible refine below_drewN ?_ _) | (with_reducible refine Below.alloc ?_ (by first | omega | (simp; done) | (simp; omega) | (simp at *; omega)) _) | (with_reducible refine Below.setCell ?_ (by first | omega | (simp; done) | (simp; omega) | (simp at *; omega)) _) | (with_reducible exact Below.refl _ _) | (with_reducible assumption) | (with_reducible refine Below.trans ?_ (Below.mono (by assumption) (by first | omega | (simp; done) | (simp; omega) | (simp at *; omega)))))))
        have hB1 : Below wc.heap.size wc x1 := hc1
        have zu1 := hB1.size
        have HSP := Lib.hid hSP
        have HSM := Lib.hid hSM.mat
        clear hSP hSM
        clear hb1 c0 c1 r0 r1 r2 hBe hlt d0 d1 d2 lx g1 g2 hWn
        obtain ⟨⟨c0, c1, r0, r1, r2, hBe, hlt⟩, ⟨d0, d1, d2, lx, g1, g2⟩, hWn⟩ := HX.out _ hB1
        go_wp2_with fail
        refine hK.out _ _ (by simp [go_sem, World.cell?_alloc_past, *]) (fun hHeld => ?_)
        clear hK K
        try simp only [Act.put, sA, sB, sC]
        refine wpAnyH_ready (rs := [3]) (by kernel_rfl) (by simp) ?_
        refine AllReadyH.cons rfl (fun K hK => ?_) AllReadyH.nil
        go_simp
        refine (RunTimes_bad GC HC G1 G2 n m gc hc l l2 k1 k2 Pl M bg Q Z E _ hn hm (by omega) (by omega) (by omega) (by omega) hs6 HSP HSM hq hq2 (Lib.hid g1) (Lib.hid g2) hE hz).mono ?_
        rintro e x2 ⟨rfl, hb2⟩
        have zz2 := hb2.size
        try simp at zz2
        have hc2 : Below x1.heap.size x1 x2 := (by (repeat (first | (with_reducible refine Below.drew ?_) | (with_reducible refine below_drewN ?_ _) | (with_reducible refine Below.alloc ?_ (by first | omega | (simp; done) | (simp; omega) | (simp at *; omega)) _) | (with_reducible refine Below.setCell ?_ (by first | omega | (simp; done) | (simp; omega) | (simp at *; omega)) _) | (with_reducible exact Below.refl _ _) | (with_reducible assumption) | (with_reducible refine Below.trans ?_ (Below.mono (by assumption) (by first | omega | (simp; done) | (simp; omega) | (simp at *; omega)))))))
        have hB2 : Below wc.heap.size wc x2 := hB1.trans (hc2.mono hB1.size)
        have zu2 := hB2.size
        clear HSP HSM
        clear hb2 hB1 zz1 zu1 hc1 c0 c1 r0 r1 r2 hBe hlt d0 d1 d2 lx g1 g2 hWn
        obtain ⟨⟨c0, c1, r0, r1, r2, hBe, hlt⟩, ⟨d0, d1, d2, lx, g1, g2⟩, hWn⟩ := HX.out _ hB2
        go_wp2_with fail
        refine hK.out _ _ (by simp [go_sem, World.cell?_alloc_past, *]) (fun hHeld => ?_)
        clear hK K
        try simp only [Act.put, sA, sB, sC]
        refine tkH 4 ⟨some 70, _, _, _, _, _⟩ ?_ rfl ?_ (by assumption) ?_
        rotate_left
        · (intro w hSw; (try dsimp only at hSw); go_simp; all_goals with_reducible rfl)
        try simp only [Act.put, sA, sB, sC]
        refine tkH 5 ⟨some 75, _, _, _, _, _⟩ ?_ rfl ?_ (by assumption) ?_
        rotate_left
        · (intro w hSw; (try dsimp only at hSw); go_simp; all_goals with_reducible rfl)
        try simp only [Act.put, sA, sB, sC]
        refine tkH 6 ⟨some 76, _, _, _, _, _⟩ ?_ rfl ?_ (by assumption) ?_
        rotate_left
        · (intro w hSw; (try dsimp only at hSw); go_simp; all_goals with_reducible rfl)
        try simp only [Act.put, sA, sB, sC]
        refine tkH 7 ⟨some 10, _, _, _, _, _⟩ ?_ rfl ?_ (by assumption) ?_
        rotate_left
        · (intro w hSw; (try dsimp only at hSw); go_simp; all_goals with_reducible rfl)
        try simp only [Act.put, sA, sB, sC]
        refine tkH 8 ⟨some 11, _, _, _, _, _⟩ ?_ rfl ?_ (by assumption) ?_
        rotate_left
        · (intro w hSw; (try dsimp only at hSw); go_simp; all_goals with_reducible rfl)
        try simp only [Act.put, sA, sB, sC]
        refine wpAnyH_done (by kernel_rfl) ?_ _
        go_upto_region 14 with (fail)
        refine wp_region_held_drew (S := (fun w' => w'.cell? ⟨w.heap.size, 0, none⟩ = some (.slice A n ca) ∧ w'.cell? ⟨w.heap.size, 1, none⟩ = some (.slice B m cb) ∧ w'.cell? ⟨bx, 0, none⟩ = some (.int .i64 bg) ∧ w'.cell? ⟨bx, 1, none⟩ = some (.slice G1 l k1) ∧ w'.cell? ⟨bx, 2, none⟩ = some (.slice G2 l2 k2))) (by kernel_rfl) (by simp [go_sem, World.cell?_alloc_past, *]) (fun hHeld => ?_)
        refine tkH 0 ⟨some 78, _, _, _, _, _⟩ ?_ rfl ?_ (by assumption) ?_
        rotate_left
        · (intro w hSw; (try dsimp only at hSw); go_simp; all_goals with_reducible rfl)
        try simp only [Act.put, sA, sB, sC]
        refine tkH 2 ⟨some 80, _, _, _, _, _⟩ ?_ rfl ?_ (by assumption) ?_
        rotate_left
        · (intro w hSw; (try dsimp only at hSw); go_simp; all_goals with_reducible rfl)
        try simp only [Act.put, sA, sB, sC]
        refine tkH 3 ⟨some 81, _, _, _, _, _⟩ ?_ rfl ?_ (by assumption) ?_
        rotate_left
        · (intro w hSw; (try dsimp only at hSw); go_simp; all_goals with_reducible rfl)
        try simp only [Act.put, sA, sB, sC]
        refine wpAnyH_ready (rs := [1]) (by kernel_rfl) (by simp) ?_
        refine AllReadyH.cons rfl (fun K hK => ?_) AllReadyH.nil
        go_simp
        refine (chart_is A B n m ca cb Pl M _ hn hm (by omega) (by omega) hrs CA (Lib.hid (HP.out _ (by (repeat (first | (with_reducible refine Below.drew ?_) | (with_reducible refine below_drewN ?_ _) | (with_reducible refine Below.alloc ?_ (by first | omega | (simp; done) | (simp; omega) | (simp at *; omega)) _) | (with_reducible refine Below.setCell ?_ (by first | omega | (simp; done) | (simp; omega) | (simp at *; omega)) _) | (with_reducible exact Below.refl _ _) | (with_reducible assumption) | (with_reducible refine Below.trans ?_ (Below.mono (by assumption) (by first | omega | (simp; done) | (simp; omega) | (simp at *; omega))))))))) (Lib.hid (HM.out _ (by (repeat (first | (with_reducible refine Below.drew ?_) | (with_reducible refine below_drewN ?_ _) | (with_reducible refine Below.alloc ?_ (by first | omega | (simp; done) | (simp; omega) | (simp at *; omega)) _) | (with_reducible refine Below.setCell ?_ (by first | omega | (simp; done) | (simp; omega) | (simp at *; omega)) _) | (with_reducible exact Below.refl _ _) | (with_reducible assumption) | (with_reducible refine Below.trans ?_ (Below.mono (by assumption) (by first | omega | (simp; done) | (simp; omega) | (simp at *; omega)))))))))).mono ?_
        rintro e x3 ⟨GC, HC, gc, hc, rfl, hSP, hSM, hb3⟩
        have zz3 := hb3.size
        try simp at zz3
        have hc3 : Below x2.heap.size x2 x3 := (by (repeat (first | (with_reducible refine Below.drew ?_) | (with_reducible refine below_drewN ?_ _) | (with_reducible refine Below.alloc ?_ (by first | omega | (simp; done) | (simp; omega) | (simp at *; omega)) _) | (with_reducible refine Below.setCell ?_ (by first | omega | (simp; done) | (simp; omega) | (simp at *; omega)) _) | (with_reducible exact Below.refl _ _) | (with_reducible assumption) | (with_reducible refine Below.trans ?_ (Below.mono (by assumption) (by first | omega | (simp; done) | (simp; omega) | (simp at *; omega)))))))
        have hB3 : Below wc.heap.size wc x3 := hB2.trans (hc3.mono hB2.size)
        have zu3 := hB3.size
        have HSP := Lib.hid hSP
        have HSM := Lib.hid hSM.mat
        clear hSP hSM
        clear hb3 hB2 zz2 zu2 hc2 c0 c1 r0 r1 r2 hBe hlt d0 d1 d2 lx g1 g2 hWn
        obtain ⟨⟨c0, c1, r0, r1, r2, hBe, hlt⟩, ⟨d0, d1, d2, lx, g1, g2⟩, hWn⟩ := HX.out _ hB3
        go_wp2_with fail
        refine hK.out _ _ (by simp [go_sem, World.cell?_alloc_past, *]) (fun hHeld => ?_)
        clear hK K
        try simp only [Act.put, sA, sB, sC]
        refine wpAnyH_ready (rs := [4]) (by kernel_rfl) (by simp) ?_
        refine AllReadyH.cons rfl (fun K hK => ?_) AllReadyH.nil
        go_simp
        refine (RunFits_bad GC HC G1 G2 G n m gc hc l l2 k1 k2 _ cg Pl M bg Q Z E _ hn hm (by omega) (by omega) (by omega) (by omega) hs6 HSP HSM hq hq2 (Lib.hid g1) (Lib.hid g2) hE hz).mono ?_
        rintro e x4 ⟨rfl, hb4⟩
        have zz4 := hb4.size
        try simp at zz4
        have hc4 : Below x3.heap.size x3 x4 := (by (repeat (first | (with_reducible refine Below.drew ?_) | (with_reducible refine below_drewN ?_ _) | (with_reducible refine Below.alloc ?_ (by first | omega | (simp; done) | (simp; omega) | (simp at *; omega)) _) | (with_reducible refine Below.setCell ?_ (by first | omega | (simp; done) | (simp; omega) | (simp at *; omega)) _) | (with_reducible exact Below.refl _ _) | (with_reducible assumption) | (with_reducible refine Below.trans ?_ (Below.mono (by assumption) (by first | omega | (simp; done) | (simp; omega) | (simp at *; omega)))))))
        have hB4 : Below wc.heap.size wc x4 := hB3.trans (hc4.mono hB3.size)
        have zu4 := hB4.size
        clear HSP HSM
        clear hb4 hB3 zz3 zu3 hc3 c0 c1 r0 r1 r2 hBe hlt d0 d1 d2 lx g1 g2 hWn
        obtain ⟨⟨c0, c1, r0, r1, r2, hBe, hlt⟩, ⟨d0, d1, d2, lx, g1, g2⟩, hWn⟩ := HX.out _ hB4
        go_wp2_with fail
        refine hK.out _ _ (by simp [go_sem, World.cell?_alloc_past, *]) (fun hHeld => ?_)
        clear hK K
        try simp only [Act.put, sA, sB, sC]
        refine tkH 5 ⟨some 77, _, _, _, _, _⟩ ?_ rfl ?_ (by assumption) ?_
        rotate_left
        · (intro w hSw; (try dsimp only at hSw); go_simp; all_goals with_reducible rfl)
        try simp only [Act.put, sA, sB, sC]
        refine tkH 6 ⟨some 83, _, _, _, _, _⟩ ?_ rfl ?_ (by assumption) ?_
        rotate_left
        · (intro w hSw; (try dsimp only at hSw); go_simp; all_goals with_reducible rfl)
        try simp only [Act.put, sA, sB, sC]
        refine tkH 7 ⟨some 84, _, _, _, _, _⟩ ?_ rfl ?_ (by assumption) ?_
        rotate_left
        · (intro w hSw; (try dsimp only at hSw); go_simp; all_goals with_reducible rfl)
        try simp only [Act.put, sA, sB, sC]
        refine tkH 8 ⟨some 12, _, _, _, _, _⟩ ?_ rfl ?_ (by assumption) ?_
        rotate_left
        · (intro w hSw; (try dsimp only at hSw); go_simp; all_goals with_reducible rfl)
        try simp only [Act.put, sA, sB, sC]
        refine tkH 9 ⟨some 13, _, _, _, _, _⟩ ?_ rfl ?_ (by assumption) ?_
        rotate_left
        · (intro w hSw; (try dsimp only at hSw); go_simp; all_goals with_reducible rfl)
        try simp only [Act.put, sA, sB, sC]
        refine wpAnyH_done (by kernel_rfl) ?_ _
        go_wp2_with fail
        refine (refChart_any A B n m ca cb Pl M E _ hn hm (by omega) (by omega) (.inl hcap) hs6 (Lib.hid (HP.out _ (by (repeat (first | (with_reducible refine Below.drew ?_) | (with_reducible refine below_drewN ?_ _) | (with_reducible refine Below.alloc ?_ (by first | omega | (simp; done) | (simp; omega) | (simp at *; omega)) _) | (with_reducible refine Below.setCell ?_ (by first | omega | (simp; done) | (simp; omega) | (simp at *; omega)) _) | (with_reducible exact Below.refl _ _) | (with_reducible assumption) | (with_reducible refine Below.trans ?_ (Below.mono (by assumption) (by first | omega | (simp; done) | (simp; omega) | (simp at *; omega))))))))) (Lib.hid (HM.out _ (by (repeat (first | (with_reducible refine Below.drew ?_) | (with_reducible refine below_drewN ?_ _) | (with_reducible refine Below.alloc ?_ (by first | omega | (simp; done) | (simp; omega) | (simp at *; omega)) _) | (with_reducible refine Below.setCell ?_ (by first | omega | (simp; done) | (simp; omega) | (simp at *; omega)) _) | (with_reducible exact Below.refl _ _) | (with_reducible assumption) | (with_reducible refine Below.trans ?_ (Below.mono (by assumption) (by first | omega | (simp; done) | (simp; omega) | (simp at *; omega)))))))).mat) hCE).mono ?_
        rintro e x5 ⟨rfl, hb5⟩
        have zz5 := hb5.size
        try simp at zz5
        have hc5 : Below x4.heap.size x4 x5 := (by (repeat (first | (with_reducible refine Below.drew ?_) | (with_reducible refine below_drewN ?_ _) | (with_reducible refine Below.alloc ?_ (by first | omega | (simp; done) | (simp; omega) | (simp at *; omega)) _) | (with_reducible refine Below.setCell ?_ (by first | omega | (simp; done) | (simp; omega) | (simp at *; omega)) _) | (with_reducible exact Below.refl _ _) | (with_reducible assumption) | (with_reducible refine Below.trans ?_ (Below.mono (by assumption) (by first | omega | (simp; done) | (simp; omega) | (simp at *; omega)))))))
        have hB5 : Below wc.heap.size wc x5 := hB4.trans (hc5.mono hB4.size)
        have zu5 := hB5.size
        clear hb5 hB4 zz4 zu4 hc4 c0 c1 r0 r1 r2 hBe hlt d0 d1 d2 lx g1 g2 hWn
        obtain ⟨⟨c0, c1, r0, r1, r2, hBe, hlt⟩, ⟨d0, d1, d2, lx, g1, g2⟩, hWn⟩ := HX.out _ hB5
        go_wp2
        go_ret
        exact ⟨rfl, hBe⟩
end Go.Proofs.YtojaompfffpofaaGreat
