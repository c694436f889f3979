import Derived.Test.YtojaompfffpofaaGreatZCSMinOf
import Derived.Outline
namespace Go.Proofs.YtojaompfffpofaaGreat
open Go.ChangeShapes Go.WideShapes Go.ChangeAt Go.RowKit
set_option linter.unusedVariables false
set_option linter.unusedSimpArgs false
attribute [local go_sem ↓] Go.wp_at_zero Go.wp_at_succ
/-- A chart and two places in memory. -/
structure ScS (A B : Option Addr) (n m ca cb : Nat) (a0 a1 : Int) (w X : World) : Prop where
  c0 : X.cell? ⟨w.heap.size, 0, none⟩ = some (.slice A n ca)
  c1 : X.cell? ⟨w.heap.size, 1, none⟩ = some (.slice B m cb)
  t0 : X.cell? ⟨w.heap.size + 1, 0, none⟩ = some (.int .i64 a0)
  t1 : X.cell? ⟨w.heap.size + 1, 1, none⟩ = some (.int .i64 a1)
  be : Below w.heap.size w X
  lt : w.heap.size + 1 < X.heap.size
theorem ScS.below {A B : Option Addr} {n m ca cb : Nat} {a0 a1 : Int} {w X X' : World} (h : ScS A B n m ca cb a0 a1 w X) (hb : Below X.heap.size X X') : ScS A B n m ca cb a0 a1 w X' := by
  have z := hb.size
  have q := h.lt
  have q0 : w.heap.size < X.heap.size := by omega
  exact ⟨(hb.cell (p := ⟨w.heap.size, 0, none⟩) q0).trans h.c0, (hb.cell (p := ⟨w.heap.size, 1, none⟩) q0).trans h.c1, (hb.cell (p := ⟨w.heap.size + 1, 0, none⟩) q).trans h.t0, (hb.cell (p := ⟨w.heap.size + 1, 1, none⟩) q).trans h.t1, h.be.trans (hb.mono h.be.size), by omega⟩
set_option maxRecDepth 100000 in
set_option maxHeartbeats 8000000 in
theorem sc_flat (A B : Option Addr) (n m ca cb : Nat) (a0 a1 : Int) (Pl : List ByteArray) (M : List (List Int)) (w : World) (hn : Hid (n = Pl.length)) (hm : Hid (m = M.length)) (hsz : Hid (∀ s ∈ Pl, s.size ≤ 9223372036854775807)) (hrl : Hid (∀ k, k < m → (M.getD k []).length ≤ 9223372036854775807)) (HP0 : Hid (SlRows strV 1 w A Pl)) (HM0 : Hid (SlMatC w B M)) (hF : Hid (flatB Pl M = false)) :
    Calls Tryz.prog 7 #[.agg #[.slice A n ca, .slice B m cb], .agg #[.int .i64 a0, .int .i64 a1]] w fun e w' => e = .returned (.bool true) ∧ Below w.heap.size w w' := by
  go_enter Tryz.func7, Tryz.ntmps7
  go_upto_region 1 with (fail)
  refine wp_world (ScS A B n m ca cb a0 a1 w) ⟨by simp [go_sem, World.cell?_alloc_past], by simp [go_sem, World.cell?_alloc_past], by simp [go_sem, World.cell?_alloc_past], by simp [go_sem, World.cell?_alloc_past], (by (repeat (first | (with_reducible refine Below.drew ?_) | (with_reducible refine below_drewN ?_ _) | (with_reducible refine Below.alloc ?_ (by first | omega | (simp; done) | (simp; omega) | (simp at *; omega)) _) | (with_reducible refine Below.setCell ?_ (by first | omega | (simp; done) | (simp; omega) | (simp at *; omega)) _) | (with_reducible exact Below.refl _ _) | (with_reducible assumption) | (with_reducible refine Below.trans ?_ (Below.mono (by assumption) (by first | omega | (simp; done) | (simp; omega) | (simp at *; omega))))))), by simp⟩ (fun u hu => ?_)
  have HU := Lib.hid hu
  have HS : Hid (∀ x, Below u.heap.size u x → ScS A B n m ca cb a0 a1 w x) := Lib.hid fun x hx => HU.out.below hx
  have HP : Hid (∀ x, Below u.heap.size u x → SlRows strV 1 x A Pl) := Lib.hid fun x hx => HP0.out.below (HU.out.below hx).be
  have HM : Hid (∀ x, Below u.heap.size u x → SlMatC x B M) := Lib.hid fun x hx => HM0.out.below (HU.out.below hx).be
  obtain ⟨c0, c1, t0, t1, hBe, hlt⟩ := hu
  go_wp2_with fail
  refine (awake_any _).mono ?_
  rintro e x1 ⟨rfl, hb1⟩
  have zz1 := hb1.size
  try simp at zz1
  have hc1 : Below u.heap.size u x1 := (by (repeat (first | (with_reducible refine Below.drew ?_) | (with_reducible refine below_drewN ?_ _) | (with_reducible refine Below.alloc ?_ (by first | omega | (simp; done) | (simp; omega) | (simp at *; omega)) _) | (with_reducible refine Below.setCell ?_ (by first | omega | (simp; done) | (simp; omega) | (simp at *; omega)) _) | (with_reducible exact Below.refl _ _) | (with_reducible assumption) | (with_reducible refine Below.trans ?_ (Below.mono (by assumption) (by first | omega | (simp; done) | (simp; omega) | (simp at *; omega)))))))
  have hB1 : Below u.heap.size u x1 := hc1
  have zu1 := hB1.size
  clear hb1 c0 c1 t0 t1 hBe hlt
  obtain ⟨c0, c1, t0, t1, hBe, hlt⟩ := HS.out _ hB1
  go_wp2_with fail
  refine (flat_any A B n m ca cb Pl M false _ hn hm hsz hrl (Lib.hid (HP.out _ (by (repeat (first | (with_reducible refine Below.drew ?_) | (with_reducible refine below_drewN ?_ _) | (with_reducible refine Below.alloc ?_ (by first | omega | (simp; done) | (simp; omega) | (simp at *; omega)) _) | (with_reducible refine Below.setCell ?_ (by first | omega | (simp; done) | (simp; omega) | (simp at *; omega)) _) | (with_reducible exact Below.refl _ _) | (with_reducible assumption) | (with_reducible refine Below.trans ?_ (Below.mono (by assumption) (by first | omega | (simp; done) | (simp; omega) | (simp at *; omega))))))))) (Lib.hid (HM.out _ (by (repeat (first | (with_reducible refine Below.drew ?_) | (with_reducible refine below_drewN ?_ _) | (with_reducible refine Below.alloc ?_ (by first | omega | (simp; done) | (simp; omega) | (simp at *; omega)) _) | (with_reducible refine Below.setCell ?_ (by first | omega | (simp; done) | (simp; omega) | (simp at *; omega)) _) | (with_reducible exact Below.refl _ _) | (with_reducible assumption) | (with_reducible refine Below.trans ?_ (Below.mono (by assumption) (by first | omega | (simp; done) | (simp; omega) | (simp at *; omega)))))))).mat) hF).mono ?_
  rintro e x2 ⟨rfl, hb2⟩
  have zz2 := hb2.size
  try simp at zz2
  have hc2 : Below x1.heap.size x1 x2 := (by (repeat (first | (with_reducible refine Below.drew ?_) | (with_reducible refine below_drewN ?_ _) | (with_reducible refine Below.alloc ?_ (by first | omega | (simp; done) | (simp; omega) | (simp at *; omega)) _) | (with_reducible refine Below.setCell ?_ (by first | omega | (simp; done) | (simp; omega) | (simp at *; omega)) _) | (with_reducible exact Below.refl _ _) | (with_reducible assumption) | (with_reducible refine Below.trans ?_ (Below.mono (by assumption) (by first | omega | (simp; done) | (simp; omega) | (simp at *; omega)))))))
  have hB2 : Below u.heap.size u x2 := hB1.trans (hc2.mono hB1.size)
  have zu2 := hB2.size
  clear hb2 hB1 zz1 zu1 hc1 c0 c1 t0 t1 hBe hlt
  obtain ⟨c0, c1, t0, t1, hBe, hlt⟩ := HS.out _ hB2
  go_wp2
  go_ret
  exact ⟨rfl, hBe⟩
set_option maxRecDepth 100000 in
set_option maxHeartbeats 8000000 in
theorem sc_chart (A B : Option Addr) (n m ca cb : Nat) (a0 a1 : Int) (Pl : List ByteArray) (M : List (List Int)) (w : World) (hn : Hid (n = Pl.length)) (hm : Hid (m = M.length)) (hsz : Hid (∀ s ∈ Pl, s.size ≤ 9223372036854775807)) (hrl : Hid (∀ k, k < m → (M.getD k []).length ≤ 9223372036854775807)) (HP0 : Hid (SlRows strV 1 w A Pl)) (HM0 : Hid (SlMatC w B M)) (hF : Hid (flatB Pl M = true)) (hl : n ≤ 14) (hm14 : m ≤ 14) (hcap : n ≤ ca) (hs6 : Hid (∀ s ∈ Pl, s.size ≤ 1000000)) (hrs : Hid (∀ k, k < m → (M.getD k []).length ≤ 1000000)) (CA : Hid (A = none → n = 0 ∧ ca = 0)) (E : Int) (hCE : Hid (chtE Pl M = E)) (hz : (E != 0) = true) :
    Calls Tryz.prog 7 #[.agg #[.slice A n ca, .slice B m cb], .agg #[.int .i64 a0, .int .i64 a1]] w fun e w' => e = .returned (.bool true) ∧ Below w.heap.size w w' := by
  have iz : ¬ E = 0 := by simpa using hz
  have jz : (E == 0) = false := by simpa [bne] using hz
  go_enter Tryz.func7, Tryz.ntmps7
  go_upto_region 1 with (fail)
  refine wp_world (ScS A B n m ca cb a0 a1 w) ⟨by simp [go_sem, World.cell?_alloc_past], by simp [go_sem, World.cell?_alloc_past], by simp [go_sem, World.cell?_alloc_past], by simp [go_sem, World.cell?_alloc_past], (by (repeat (first | (with_reducible refine Below.drew ?_) | (with_reducible refine below_drewN ?_ _) | (with_reducible refine Below.alloc ?_ (by first | omega | (simp; done) | (simp; omega) | (simp at *; omega)) _) | (with_reducible refine Below.setCell ?_ (by first | omega | (simp; done) | (simp; omega) | (simp at *; omega)) _) | (with_reducible exact Below.refl _ _) | (with_reducible assumption) | (with_reducible refine Below.trans ?_ (Below.mono (by assumption) (by first | omega | (simp; done) | (simp; omega) | (simp at *; omega))))))), by simp⟩ (fun u hu => ?_)
  have HU := Lib.hid hu
  have HS : Hid (∀ x, Below u.heap.size u x → ScS A B n m ca cb a0 a1 w x) := Lib.hid fun x hx => HU.out.below hx
  have HP : Hid (∀ x, Below u.heap.size u x → SlRows strV 1 x A Pl) := Lib.hid fun x hx => HP0.out.below (HU.out.below hx).be
  have HM : Hid (∀ x, Below u.heap.size u x → SlMatC x B M) := Lib.hid fun x hx => HM0.out.below (HU.out.below hx).be
  obtain ⟨c0, c1, t0, t1, hBe, hlt⟩ := hu
  go_wp2_with fail
  refine (awake_any _).mono ?_
  rintro e x1 ⟨rfl, hb1⟩
  have zz1 := hb1.size
  try simp at zz1
  have hc1 : Below u.heap.size u x1 := (by (repeat (first | (with_reducible refine Below.drew ?_) | (with_reducible refine below_drewN ?_ _) | (with_reducible refine Below.alloc ?_ (by first | omega | (simp; done) | (simp; omega) | (simp at *; omega)) _) | (with_reducible refine Below.setCell ?_ (by first | omega | (simp; done) | (simp; omega) | (simp at *; omega)) _) | (with_reducible exact Below.refl _ _) | (with_reducible assumption) | (with_reducible refine Below.trans ?_ (Below.mono (by assumption) (by first | omega | (simp; done) | (simp; omega) | (simp at *; omega)))))))
  have hB1 : Below u.heap.size u x1 := hc1
  have zu1 := hB1.size
  clear hb1 c0 c1 t0 t1 hBe hlt
  obtain ⟨c0, c1, t0, t1, hBe, hlt⟩ := HS.out _ hB1
  go_wp2_with fail
  refine (flat_any A B n m ca cb Pl M true _ hn hm hsz hrl (Lib.hid (HP.out _ (by (repeat (first | (with_reducible refine Below.drew ?_) | (with_reducible refine below_drewN ?_ _) | (with_reducible refine Below.alloc ?_ (by first | omega | (simp; done) | (simp; omega) | (simp at *; omega)) _) | (with_reducible refine Below.setCell ?_ (by first | omega | (simp; done) | (simp; omega) | (simp at *; omega)) _) | (with_reducible exact Below.refl _ _) | (with_reducible assumption) | (with_reducible refine Below.trans ?_ (Below.mono (by assumption) (by first | omega | (simp; done) | (simp; omega) | (simp at *; omega))))))))) (Lib.hid (HM.out _ (by (repeat (first | (with_reducible refine Below.drew ?_) | (with_reducible refine below_drewN ?_ _) | (with_reducible refine Below.alloc ?_ (by first | omega | (simp; done) | (simp; omega) | (simp at *; omega)) _) | (with_reducible refine Below.setCell ?_ (by first | omega | (simp; done) | (simp; omega) | (simp at *; omega)) _) | (with_reducible exact Below.refl _ _) | (with_reducible assumption) | (with_reducible refine Below.trans ?_ (Below.mono (by assumption) (by first | omega | (simp; done) | (simp; omega) | (simp at *; omega)))))))).mat) hF).mono ?_
  rintro e x2 ⟨rfl, hb2⟩
  have zz2 := hb2.size
  try simp at zz2
  have hc2 : Below x1.heap.size x1 x2 := (by (repeat (first | (with_reducible refine Below.drew ?_) | (with_reducible refine below_drewN ?_ _) | (with_reducible refine Below.alloc ?_ (by first | omega | (simp; done) | (simp; omega) | (simp at *; omega)) _) | (with_reducible refine Below.setCell ?_ (by first | omega | (simp; done) | (simp; omega) | (simp at *; omega)) _) | (with_reducible exact Below.refl _ _) | (with_reducible assumption) | (with_reducible refine Below.trans ?_ (Below.mono (by assumption) (by first | omega | (simp; done) | (simp; omega) | (simp at *; omega)))))))
  have hB2 : Below u.heap.size u x2 := hB1.trans (hc2.mono hB1.size)
  have zu2 := hB2.size
  clear hb2 hB1 zz1 zu1 hc1 c0 c1 t0 t1 hBe hlt
  obtain ⟨c0, c1, t0, t1, hBe, hlt⟩ := HS.out _ hB2
  go_upto_region 5 with (fail)
  refine wp_region_held_drew (S := (fun w' => w'.cell? ⟨w.heap.size, 0, none⟩ = some (.slice A n ca) ∧ w'.cell? ⟨w.heap.size, 1, none⟩ = some (.slice B m cb) ∧ w'.cell? ⟨w.heap.size + 1, 0, none⟩ = some (.int .i64 a0) ∧ w'.cell? ⟨w.heap.size + 1, 1, none⟩ = some (.int .i64 a1))) (by kernel_rfl) (by simp [go_sem, World.cell?_alloc_past, *]) (fun hHeld => ?_)
  refine tkH 0 ⟨some 16, _, _, _, _, _⟩ ?_ rfl ?_ (by assumption) ?_
  rotate_left
  · (intro w hSw; (try dsimp only at hSw); go_simp; all_goals with_reducible rfl)
  try simp only [Act.put, sA, sB, sC]
  refine tkH 2 ⟨some 18, _, _, _, _, _⟩ ?_ rfl ?_ (by assumption) ?_
  rotate_left
  · (intro w hSw; (try dsimp only at hSw); go_simp; all_goals with_reducible rfl)
  try simp only [Act.put, sA, sB, sC]
  refine tkH 3 ⟨some 19, _, _, _, _, _⟩ ?_ rfl ?_ (by assumption) ?_
  rotate_left
  · (intro w hSw; (try dsimp only at hSw); go_simp; all_goals with_reducible rfl)
  try simp only [Act.put, sA, sB, sC]
  refine tkH 4 ⟨some 20, _, _, _, _, _⟩ ?_ rfl ?_ (by assumption) ?_
  rotate_left
  · (intro w hSw; (try dsimp only at hSw); go_simp; all_goals with_reducible rfl)
  try simp only [Act.put, sA, sB, sC]
  refine tkH 5 ⟨some 21, _, _, _, _, _⟩ ?_ rfl ?_ (by assumption) ?_
  rotate_left
  · (intro w hSw; (try dsimp only at hSw); go_simp; all_goals with_reducible rfl)
  try simp only [Act.put, sA, sB, sC]
  refine wpAnyH_ready (rs := [1]) (by kernel_rfl) (by simp) ?_
  refine AllReadyH.cons rfl (fun K hK => ?_) AllReadyH.nil
  go_simp
  refine (chart_is A B n m ca cb Pl M _ hn hm (by omega) (by omega) hrs CA (Lib.hid (HP.out _ (by (repeat (first | (with_reducible refine Below.drew ?_) | (with_reducible refine below_drewN ?_ _) | (with_reducible refine Below.alloc ?_ (by first | omega | (simp; done) | (simp; omega) | (simp at *; omega)) _) | (with_reducible refine Below.setCell ?_ (by first | omega | (simp; done) | (simp; omega) | (simp at *; omega)) _) | (with_reducible exact Below.refl _ _) | (with_reducible assumption) | (with_reducible refine Below.trans ?_ (Below.mono (by assumption) (by first | omega | (simp; done) | (simp; omega) | (simp at *; omega))))))))) (Lib.hid (HM.out _ (by (repeat (first | (with_reducible refine Below.drew ?_) | (with_reducible refine below_drewN ?_ _) | (with_reducible refine Below.alloc ?_ (by first | omega | (simp; done) | (simp; omega) | (simp at *; omega)) _) | (with_reducible refine Below.setCell ?_ (by first | omega | (simp; done) | (simp; omega) | (simp at *; omega)) _) | (with_reducible exact Below.refl _ _) | (with_reducible assumption) | (with_reducible refine Below.trans ?_ (Below.mono (by assumption) (by first | omega | (simp; done) | (simp; omega) | (simp at *; omega)))))))))).mono ?_
  rintro e x3 ⟨GC, HC, gc, hc, rfl, hSP, hSM, hb3⟩
  have zz3 := hb3.size
  try simp at zz3
  have hc3 : Below x2.heap.size x2 x3 := (by (repeat (first | (with_reducible refine Below.drew ?_) | (with_reducible refine below_drewN ?_ _) | (with_reducible refine Below.alloc ?_ (by first | omega | (simp; done) | (simp; omega) | (simp at *; omega)) _) | (with_reducible refine Below.setCell ?_ (by first | omega | (simp; done) | (simp; omega) | (simp at *; omega)) _) | (with_reducible exact Below.refl _ _) | (with_reducible assumption) | (with_reducible refine Below.trans ?_ (Below.mono (by assumption) (by first | omega | (simp; done) | (simp; omega) | (simp at *; omega)))))))
  have hB3 : Below u.heap.size u x3 := hB2.trans (hc3.mono hB2.size)
  have zu3 := hB3.size
  have HSP := Lib.hid hSP
  have HSM := Lib.hid hSM.mat
  clear hSP hSM
  clear hb3 hB2 zz2 zu2 hc2 c0 c1 t0 t1 hBe hlt
  obtain ⟨c0, c1, t0, t1, hBe, hlt⟩ := HS.out _ hB3
  go_wp2_with fail
  refine hK.out _ _ (by simp [go_sem, World.cell?_alloc_past, *]) (fun hHeld => ?_)
  clear hK K
  try simp only [Act.put, sA, sB, sC]
  refine wpAnyH_ready (rs := [6]) (by kernel_rfl) (by simp) ?_
  refine AllReadyH.cons rfl (fun K hK => ?_) AllReadyH.nil
  go_simp
  refine (Way_bad GC HC n m gc hc a0 a1 Pl M E _ hn hm (by omega) (by omega) hs6 HSP HSM hCE hz).mono ?_
  rintro e x4 ⟨rfl, hb4⟩
  have zz4 := hb4.size
  try simp at zz4
  have hc4 : Below x3.heap.size x3 x4 := (by (repeat (first | (with_reducible refine Below.drew ?_) | (with_reducible refine below_drewN ?_ _) | (with_reducible refine Below.alloc ?_ (by first | omega | (simp; done) | (simp; omega) | (simp at *; omega)) _) | (with_reducible refine Below.setCell ?_ (by first | omega | (simp; done) | (simp; omega) | (simp at *; omega)) _) | (with_reducible exact Below.refl _ _) | (with_reducible assumption) | (with_reducible refine Below.trans ?_ (Below.mono (by assumption) (by first | omega | (simp; done) | (simp; omega) | (simp at *; omega)))))))
  have hB4 : Below u.heap.size u x4 := hB3.trans (hc4.mono hB3.size)
  have zu4 := hB4.size
  clear HSP HSM
  clear hb4 hB3 zz3 zu3 hc3 c0 c1 t0 t1 hBe hlt
  obtain ⟨c0, c1, t0, t1, hBe, hlt⟩ := HS.out _ hB4
  go_wp2_with fail
  refine hK.out _ _ (by simp [go_sem, World.cell?_alloc_past, *]) (fun hHeld => ?_)
  clear hK K
  try simp only [Act.put, sA, sB, sC]
  refine tkH 7 ⟨some 15, _, _, _, _, _⟩ ?_ rfl ?_ (by assumption) ?_
  rotate_left
  · (intro w hSw; (try dsimp only at hSw); go_simp; all_goals with_reducible rfl)
  try simp only [Act.put, sA, sB, sC]
  refine tkH 8 ⟨some 23, _, _, _, _, _⟩ ?_ rfl ?_ (by assumption) ?_
  rotate_left
  · (intro w hSw; (try dsimp only at hSw); go_simp; all_goals with_reducible rfl)
  try simp only [Act.put, sA, sB, sC]
  refine tkH 9 ⟨some 24, _, _, _, _, _⟩ ?_ rfl ?_ (by assumption) ?_
  rotate_left
  · (intro w hSw; (try dsimp only at hSw); go_simp; all_goals with_reducible rfl)
  try simp only [Act.put, sA, sB, sC]
  refine tkH 10 ⟨some 25, _, _, _, _, _⟩ ?_ rfl ?_ (by assumption) ?_
  rotate_left
  · (intro w hSw; (try dsimp only at hSw); go_simp; all_goals with_reducible rfl)
  try simp only [Act.put, sA, sB, sC]
  refine tkH 11 ⟨some 5, _, _, _, _, _⟩ ?_ rfl ?_ (by assumption) ?_
  rotate_left
  · (intro w hSw; (try dsimp only at hSw); go_simp; all_goals with_reducible rfl)
  try simp only [Act.put, sA, sB, sC]
  refine tkH 12 ⟨some 6, _, _, _, _, _⟩ ?_ rfl ?_ (by assumption) ?_
  rotate_left
  · (intro w hSw; (try dsimp only at hSw); go_simp; all_goals with_reducible rfl)
  try simp only [Act.put, sA, sB, sC]
  refine tkH 13 ⟨some 7, _, _, _, _, _⟩ ?_ rfl ?_ (by assumption) ?_
  rotate_left
  · (intro w hSw; (try dsimp only at hSw); go_simp; all_goals with_reducible rfl)
  try simp only [Act.put, sA, sB, sC]
  refine wpAnyH_done (by kernel_rfl) ?_ _
  go_wp2_with fail
  refine (refChart_any A B n m ca cb Pl M E _ hn hm (by omega) (by omega) (.inl hcap) hs6 (Lib.hid (HP.out _ (by (repeat (first | (with_reducible refine Below.drew ?_) | (with_reducible refine below_drewN ?_ _) | (with_reducible refine Below.alloc ?_ (by first | omega | (simp; done) | (simp; omega) | (simp at *; omega)) _) | (with_reducible refine Below.setCell ?_ (by first | omega | (simp; done) | (simp; omega) | (simp at *; omega)) _) | (with_reducible exact Below.refl _ _) | (with_reducible assumption) | (with_reducible refine Below.trans ?_ (Below.mono (by assumption) (by first | omega | (simp; done) | (simp; omega) | (simp at *; omega))))))))) (Lib.hid (HM.out _ (by (repeat (first | (with_reducible refine Below.drew ?_) | (with_reducible refine below_drewN ?_ _) | (with_reducible refine Below.alloc ?_ (by first | omega | (simp; done) | (simp; omega) | (simp at *; omega)) _) | (with_reducible refine Below.setCell ?_ (by first | omega | (simp; done) | (simp; omega) | (simp at *; omega)) _) | (with_reducible exact Below.refl _ _) | (with_reducible assumption) | (with_reducible refine Below.trans ?_ (Below.mono (by assumption) (by first | omega | (simp; done) | (simp; omega) | (simp at *; omega)))))))).mat) hCE).mono ?_
  rintro e x5 ⟨rfl, hb5⟩
  have zz5 := hb5.size
  try simp at zz5
  have hc5 : Below x4.heap.size x4 x5 := (by (repeat (first | (with_reducible refine Below.drew ?_) | (with_reducible refine below_drewN ?_ _) | (with_reducible refine Below.alloc ?_ (by first | omega | (simp; done) | (simp; omega) | (simp at *; omega)) _) | (with_reducible refine Below.setCell ?_ (by first | omega | (simp; done) | (simp; omega) | (simp at *; omega)) _) | (with_reducible exact Below.refl _ _) | (with_reducible assumption) | (with_reducible refine Below.trans ?_ (Below.mono (by assumption) (by first | omega | (simp; done) | (simp; omega) | (simp at *; omega)))))))
  have hB5 : Below u.heap.size u x5 := hB4.trans (hc5.mono hB4.size)
  have zu5 := hB5.size
  clear hb5 hB4 zz4 zu4 hc4 c0 c1 t0 t1 hBe hlt
  obtain ⟨c0, c1, t0, t1, hBe, hlt⟩ := HS.out _ hB5
  go_wp2_with fail
  refine (chart_is A B n m ca cb Pl M _ hn hm (by omega) (by omega) hrs CA (Lib.hid (HP.out _ (by (repeat (first | (with_reducible refine Below.drew ?_) | (with_reducible refine below_drewN ?_ _) | (with_reducible refine Below.alloc ?_ (by first | omega | (simp; done) | (simp; omega) | (simp at *; omega)) _) | (with_reducible refine Below.setCell ?_ (by first | omega | (simp; done) | (simp; omega) | (simp at *; omega)) _) | (with_reducible exact Below.refl _ _) | (with_reducible assumption) | (with_reducible refine Below.trans ?_ (Below.mono (by assumption) (by first | omega | (simp; done) | (simp; omega) | (simp at *; omega))))))))) (Lib.hid (HM.out _ (by (repeat (first | (with_reducible refine Below.drew ?_) | (with_reducible refine below_drewN ?_ _) | (with_reducible refine Below.alloc ?_ (by first | omega | (simp; done) | (simp; omega) | (simp at *; omega)) _) | (with_reducible refine Below.setCell ?_ (by first | omega | (simp; done) | (simp; omega) | (simp at *; omega)) _) | (with_reducible exact Below.refl _ _) | (with_reducible assumption) | (with_reducible refine Below.trans ?_ (Below.mono (by assumption) (by first | omega | (simp; done) | (simp; omega) | (simp at *; omega)))))))))).mono ?_
  rintro e x6 ⟨GC, HC, gc, hc, rfl, hSP, hSM, hb6⟩
  have zz6 := hb6.size
  try simp at zz6
  have hc6 : Below x5.heap.size x5 x6 := (by (repeat (first | (with_reducible refine Below.drew ?_) | (with_reducible refine below_drewN ?_ _) | (with_reducible refine Below.alloc ?_ (by first | omega | (simp; done) | (simp; omega) | (simp at *; omega)) _) | (with_reducible refine Below.setCell ?_ (by first | omega | (simp; done) | (simp; omega) | (simp at *; omega)) _) | (with_reducible exact Below.refl _ _) | (with_reducible assumption) | (with_reducible refine Below.trans ?_ (Below.mono (by assumption) (by first | omega | (simp; done) | (simp; omega) | (simp at *; omega)))))))
  have hB6 : Below u.heap.size u x6 := hB5.trans (hc6.mono hB5.size)
  have zu6 := hB6.size
  have HSP := Lib.hid hSP
  have HSM := Lib.hid hSM.mat
  clear hSP hSM
  clear hb6 hB5 zz5 zu5 hc5 c0 c1 t0 t1 hBe hlt
  obtain ⟨c0, c1, t0, t1, hBe, hlt⟩ := HS.out _ hB6
  go_wp2_with fail
  refine (CheckChart_any GC HC n m gc hc Pl M E _ hn hm (by omega) (by omega) hs6 HSP HSM hCE).mono ?_
  rintro e x7 ⟨rfl, hb7⟩
  have zz7 := hb7.size
  try simp at zz7
  have hc7 : Below x6.heap.size x6 x7 := (by (repeat (first | (with_reducible refine Below.drew ?_) | (with_reducible refine below_drewN ?_ _) | (with_reducible refine Below.alloc ?_ (by first | omega | (simp; done) | (simp; omega) | (simp at *; omega)) _) | (with_reducible refine Below.setCell ?_ (by first | omega | (simp; done) | (simp; omega) | (simp at *; omega)) _) | (with_reducible exact Below.refl _ _) | (with_reducible assumption) | (with_reducible refine Below.trans ?_ (Below.mono (by assumption) (by first | omega | (simp; done) | (simp; omega) | (simp at *; omega)))))))
  have hB7 : Below u.heap.size u x7 := hB6.trans (hc7.mono hB6.size)
  have zu7 := hB7.size
  clear HSP HSM
  clear hb7 hB6 zz6 zu6 hc6 c0 c1 t0 t1 hBe hlt
  obtain ⟨c0, c1, t0, t1, hBe, hlt⟩ := HS.out _ hB7
  go_wp2
  go_ret
  exact ⟨rfl, hBe⟩
set_option maxRecDepth 100000 in
set_option maxHeartbeats 8000000 in
theorem sc_place0 (A B : Option Addr) (n ca cb : Nat) (a0 a1 : Int) (Pl : List ByteArray) (M : List (List Int)) (w : World) (hn : Hid (n = Pl.length)) (hm : Hid (n = M.length)) (hsz : Hid (∀ s ∈ Pl, s.size ≤ 9223372036854775807)) (hrl : Hid (∀ k, k < n → (M.getD k []).length ≤ 9223372036854775807)) (HP0 : Hid (SlRows strV 1 w A Pl)) (HM0 : Hid (SlMatC w B M)) (hF : Hid (flatB Pl M = true)) (hl : n ≤ 14) (hm14 : n ≤ 14) (hcap : n ≤ ca) (hs6 : Hid (∀ s ∈ Pl, s.size ≤ 1000000)) (hrs : Hid (∀ k, k < n → (M.getD k []).length ≤ 1000000)) (CA : Hid (A = none → n = 0 ∧ ca = 0)) (hC0 : Hid (chtE Pl M = 0)) (hb0 : Hid (inB a0 0 ((n : Int) - 1) = false)) :
    Calls Tryz.prog 7 #[.agg #[.slice A n ca, .slice B n cb], .agg #[.int .i64 a0, .int .i64 a1]] w fun e w' => e = .returned (.bool true) ∧ Below w.heap.size w w' := by
  have HOK := Lib.hid (chtE_ok hs6.out hC0.out)
  have n12 : n ≤ 12 := by rw [hn.out]; exact HOK.out.n12
  have w1 : IntKind.i64.wrap ((n : Int) - 1) = (n : Int) - 1 := IntWalk.i64_in _ (by omega)
  have hF0 : Hid (plcE n a0 = 6) := Lib.hid (by unfold plcE; rw [hb0.out]; rfl)
  obtain ⟨G, hG⟩ : ∃ G, Hid (plcE n a1 = G) := ⟨_, Lib.hid rfl⟩
  have hFE : Hid (firE [6, G] = 6) := Lib.hid rfl
  go_enter Tryz.func7, Tryz.ntmps7
  go_upto_region 1 with (fail)
  refine wp_world (ScS A B n n ca cb a0 a1 w) ⟨by simp [go_sem, World.cell?_alloc_past], by simp [go_sem, World.cell?_alloc_past], by simp [go_sem, World.cell?_alloc_past], by simp [go_sem, World.cell?_alloc_past], (by (repeat (first | (with_reducible refine Below.drew ?_) | (with_reducible refine below_drewN ?_ _) | (with_reducible refine Below.alloc ?_ (by first | omega | (simp; done) | (simp; omega) | (simp at *; omega)) _) | (with_reducible refine Below.setCell ?_ (by first | omega | (simp; done) | (simp; omega) | (simp at *; omega)) _) | (with_reducible exact Below.refl _ _) | (with_reducible assumption) | (with_reducible refine Below.trans ?_ (Below.mono (by assumption) (by first | omega | (simp; done) | (simp; omega) | (simp at *; omega))))))), by simp⟩ (fun u hu => ?_)
  have HU := Lib.hid hu
  have HS : Hid (∀ x, Below u.heap.size u x → ScS A B n n ca cb a0 a1 w x) := Lib.hid fun x hx => HU.out.below hx
  have HP : Hid (∀ x, Below u.heap.size u x → SlRows strV 1 x A Pl) := Lib.hid fun x hx => HP0.out.below (HU.out.below hx).be
  have HM : Hid (∀ x, Below u.heap.size u x → SlMatC x B M) := Lib.hid fun x hx => HM0.out.below (HU.out.below hx).be
  obtain ⟨c0, c1, t0, t1, hBe, hlt⟩ := hu
  go_wp2_with fail
  refine (awake_any _).mono ?_
  rintro e x1 ⟨rfl, hb1⟩
  have zz1 := hb1.size
  try simp at zz1
  have hc1 : Below u.heap.size u x1 := (by (repeat (first | (with_reducible refine Below.drew ?_) | (with_reducible refine below_drewN ?_ _) | (with_reducible refine Below.alloc ?_ (by first | omega | (simp; done) | (simp; omega) | (simp at *; omega)) _) | (with_reducible refine Below.setCell ?_ (by first | omega | (simp; done) | (simp; omega) | (simp at *; omega)) _) | (with_reducible exact Below.refl _ _) | (with_reducible assumption) | (with_reducible refine Below.trans ?_ (Below.mono (by assumption) (by first | omega | (simp; done) | (simp; omega) | (simp at *; omega)))))))
  have hB1 : Below u.heap.size u x1 := hc1
  have zu1 := hB1.size
  clear hb1 c0 c1 t0 t1 hBe hlt
  obtain ⟨c0, c1, t0, t1, hBe, hlt⟩ := HS.out _ hB1
  go_wp2_with fail
  refine (flat_any A B n n ca cb Pl M true _ hn hm hsz hrl (Lib.hid (HP.out _ (by (repeat (first | (with_reducible refine Below.drew ?_) | (with_reducible refine below_drewN ?_ _) | (with_reducible refine Below.alloc ?_ (by first | omega | (simp; done) | (simp; omega) | (simp at *; omega)) _) | (with_reducible refine Below.setCell ?_ (by first | omega | (simp; done) | (simp; omega) | (simp at *; omega)) _) | (with_reducible exact Below.refl _ _) | (with_reducible assumption) | (with_reducible refine Below.trans ?_ (Below.mono (by assumption) (by first | omega | (simp; done) | (simp; omega) | (simp at *; omega))))))))) (Lib.hid (HM.out _ (by (repeat (first | (with_reducible refine Below.drew ?_) | (with_reducible refine below_drewN ?_ _) | (with_reducible refine Below.alloc ?_ (by first | omega | (simp; done) | (simp; omega) | (simp at *; omega)) _) | (with_reducible refine Below.setCell ?_ (by first | omega | (simp; done) | (simp; omega) | (simp at *; omega)) _) | (with_reducible exact Below.refl _ _) | (with_reducible assumption) | (with_reducible refine Below.trans ?_ (Below.mono (by assumption) (by first | omega | (simp; done) | (simp; omega) | (simp at *; omega)))))))).mat) hF).mono ?_
  rintro e x2 ⟨rfl, hb2⟩
  have zz2 := hb2.size
  try simp at zz2
  have hc2 : Below x1.heap.size x1 x2 := (by (repeat (first | (with_reducible refine Below.drew ?_) | (with_reducible refine below_drewN ?_ _) | (with_reducible refine Below.alloc ?_ (by first | omega | (simp; done) | (simp; omega) | (simp at *; omega)) _) | (with_reducible refine Below.setCell ?_ (by first | omega | (simp; done) | (simp; omega) | (simp at *; omega)) _) | (with_reducible exact Below.refl _ _) | (with_reducible assumption) | (with_reducible refine Below.trans ?_ (Below.mono (by assumption) (by first | omega | (simp; done) | (simp; omega) | (simp at *; omega)))))))
  have hB2 : Below u.heap.size u x2 := hB1.trans (hc2.mono hB1.size)
  have zu2 := hB2.size
  clear hb2 hB1 zz1 zu1 hc1 c0 c1 t0 t1 hBe hlt
  obtain ⟨c0, c1, t0, t1, hBe, hlt⟩ := HS.out _ hB2
  go_upto_region 5 with (fail)
  refine wp_region_held_drew (S := (fun w' => w'.cell? ⟨w.heap.size, 0, none⟩ = some (.slice A n ca) ∧ w'.cell? ⟨w.heap.size, 1, none⟩ = some (.slice B n cb) ∧ w'.cell? ⟨w.heap.size + 1, 0, none⟩ = some (.int .i64 a0) ∧ w'.cell? ⟨w.heap.size + 1, 1, none⟩ = some (.int .i64 a1))) (by kernel_rfl) (by simp [go_sem, World.cell?_alloc_past, *]) (fun hHeld => ?_)
  refine tkH 0 ⟨some 16, _, _, _, _, _⟩ ?_ rfl ?_ (by assumption) ?_
  rotate_left
  · (intro w hSw; (try dsimp only at hSw); go_simp; all_goals with_reducible rfl)
  try simp only [Act.put, sA, sB, sC]
  refine tkH 2 ⟨some 18, _, _, _, _, _⟩ ?_ rfl ?_ (by assumption) ?_
  rotate_left
  · (intro w hSw; (try dsimp only at hSw); go_simp; all_goals with_reducible rfl)
  try simp only [Act.put, sA, sB, sC]
  refine tkH 3 ⟨some 19, _, _, _, _, _⟩ ?_ rfl ?_ (by assumption) ?_
  rotate_left
  · (intro w hSw; (try dsimp only at hSw); go_simp; all_goals with_reducible rfl)
  try simp only [Act.put, sA, sB, sC]
  refine tkH 4 ⟨some 20, _, _, _, _, _⟩ ?_ rfl ?_ (by assumption) ?_
  rotate_left
  · (intro w hSw; (try dsimp only at hSw); go_simp; all_goals with_reducible rfl)
  try simp only [Act.put, sA, sB, sC]
  refine tkH 5 ⟨some 21, _, _, _, _, _⟩ ?_ rfl ?_ (by assumption) ?_
  rotate_left
  · (intro w hSw; (try dsimp only at hSw); go_simp; all_goals with_reducible rfl)
  try simp only [Act.put, sA, sB, sC]
  refine wpAnyH_ready (rs := [1]) (by kernel_rfl) (by simp) ?_
  refine AllReadyH.cons rfl (fun K hK => ?_) AllReadyH.nil
  go_simp
  refine (chart_is A B n n ca cb Pl M _ hn hm (by omega) (by omega) hrs CA (Lib.hid (HP.out _ (by (repeat (first | (with_reducible refine Below.drew ?_) | (with_reducible refine below_drewN ?_ _) | (with_reducible refine Below.alloc ?_ (by first | omega | (simp; done) | (simp; omega) | (simp at *; omega)) _) | (with_reducible refine Below.setCell ?_ (by first | omega | (simp; done) | (simp; omega) | (simp at *; omega)) _) | (with_reducible exact Below.refl _ _) | (with_reducible assumption) | (with_reducible refine Below.trans ?_ (Below.mono (by assumption) (by first | omega | (simp; done) | (simp; omega) | (simp at *; omega))))))))) (Lib.hid (HM.out _ (by (repeat (first | (with_reducible refine Below.drew ?_) | (with_reducible refine below_drewN ?_ _) | (with_reducible refine Below.alloc ?_ (by first | omega | (simp; done) | (simp; omega) | (simp at *; omega)) _) | (with_reducible refine Below.setCell ?_ (by first | omega | (simp; done) | (simp; omega) | (simp at *; omega)) _) | (with_reducible exact Below.refl _ _) | (with_reducible assumption) | (with_reducible refine Below.trans ?_ (Below.mono (by assumption) (by first | omega | (simp; done) | (simp; omega) | (simp at *; omega)))))))))).mono ?_
  rintro e x3 ⟨GC, HC, gc, hc, rfl, hSP, hSM, hb3⟩
  have zz3 := hb3.size
  try simp at zz3
  have hc3 : Below x2.heap.size x2 x3 := (by (repeat (first | (with_reducible refine Below.drew ?_) | (with_reducible refine below_drewN ?_ _) | (with_reducible refine Below.alloc ?_ (by first | omega | (simp; done) | (simp; omega) | (simp at *; omega)) _) | (with_reducible refine Below.setCell ?_ (by first | omega | (simp; done) | (simp; omega) | (simp at *; omega)) _) | (with_reducible exact Below.refl _ _) | (with_reducible assumption) | (with_reducible refine Below.trans ?_ (Below.mono (by assumption) (by first | omega | (simp; done) | (simp; omega) | (simp at *; omega)))))))
  have hB3 : Below u.heap.size u x3 := hB2.trans (hc3.mono hB2.size)
  have zu3 := hB3.size
  have HSP := Lib.hid hSP
  have HSM := Lib.hid hSM.mat
  clear hSP hSM
  clear hb3 hB2 zz2 zu2 hc2 c0 c1 t0 t1 hBe hlt
  obtain ⟨c0, c1, t0, t1, hBe, hlt⟩ := HS.out _ hB3
  go_wp2_with fail
  refine hK.out _ _ (by simp [go_sem, World.cell?_alloc_past, *]) (fun hHeld => ?_)
  clear hK K
  try simp only [Act.put, sA, sB, sC]
  refine wpAnyH_ready (rs := [6]) (by kernel_rfl) (by simp) ?_
  refine AllReadyH.cons rfl (fun K hK => ?_) AllReadyH.nil
  go_simp
  refine (Way_place GC HC n gc hc Pl M a0 a1 6 G 6 _ hC0 n12 (Lib.hid ⟨hn.out, HOK.out, HSP.out, HSM.out⟩) hF0 hG hFE (by decide)).mono ?_
  rintro e x4 ⟨rfl, hb4⟩
  have zz4 := hb4.size
  try simp at zz4
  have hc4 : Below x3.heap.size x3 x4 := (by (repeat (first | (with_reducible refine Below.drew ?_) | (with_reducible refine below_drewN ?_ _) | (with_reducible refine Below.alloc ?_ (by first | omega | (simp; done) | (simp; omega) | (simp at *; omega)) _) | (with_reducible refine Below.setCell ?_ (by first | omega | (simp; done) | (simp; omega) | (simp at *; omega)) _) | (with_reducible exact Below.refl _ _) | (with_reducible assumption) | (with_reducible refine Below.trans ?_ (Below.mono (by assumption) (by first | omega | (simp; done) | (simp; omega) | (simp at *; omega)))))))
  have hB4 : Below u.heap.size u x4 := hB3.trans (hc4.mono hB3.size)
  have zu4 := hB4.size
  clear HSP HSM
  clear hb4 hB3 zz3 zu3 hc3 c0 c1 t0 t1 hBe hlt
  obtain ⟨c0, c1, t0, t1, hBe, hlt⟩ := HS.out _ hB4
  go_wp2_with fail
  refine hK.out _ _ (by simp [go_sem, World.cell?_alloc_past, *]) (fun hHeld => ?_)
  clear hK K
  try simp only [Act.put, sA, sB, sC]
  refine tkH 7 ⟨some 15, _, _, _, _, _⟩ ?_ rfl ?_ (by assumption) ?_
  rotate_left
  · (intro w hSw; (try dsimp only at hSw); go_simp; all_goals with_reducible rfl)
  try simp only [Act.put, sA, sB, sC]
  refine tkH 8 ⟨some 23, _, _, _, _, _⟩ ?_ rfl ?_ (by assumption) ?_
  rotate_left
  · (intro w hSw; (try dsimp only at hSw); go_simp; all_goals with_reducible rfl)
  try simp only [Act.put, sA, sB, sC]
  refine tkH 9 ⟨some 24, _, _, _, _, _⟩ ?_ rfl ?_ (by assumption) ?_
  rotate_left
  · (intro w hSw; (try dsimp only at hSw); go_simp; all_goals with_reducible rfl)
  try simp only [Act.put, sA, sB, sC]
  refine tkH 10 ⟨some 25, _, _, _, _, _⟩ ?_ rfl ?_ (by assumption) ?_
  rotate_left
  · (intro w hSw; (try dsimp only at hSw); go_simp; all_goals with_reducible rfl)
  try simp only [Act.put, sA, sB, sC]
  refine tkH 11 ⟨some 5, _, _, _, _, _⟩ ?_ rfl ?_ (by assumption) ?_
  rotate_left
  · (intro w hSw; (try dsimp only at hSw); go_simp; all_goals with_reducible rfl)
  try simp only [Act.put, sA, sB, sC]
  refine tkH 12 ⟨some 6, _, _, _, _, _⟩ ?_ rfl ?_ (by assumption) ?_
  rotate_left
  · (intro w hSw; (try dsimp only at hSw); go_simp; all_goals with_reducible rfl)
  try simp only [Act.put, sA, sB, sC]
  refine tkH 13 ⟨some 7, _, _, _, _, _⟩ ?_ rfl ?_ (by assumption) ?_
  rotate_left
  · (intro w hSw; (try dsimp only at hSw); go_simp; all_goals with_reducible rfl)
  try simp only [Act.put, sA, sB, sC]
  refine wpAnyH_done (by kernel_rfl) ?_ _
  go_wp2_with fail
  refine (refChart_any A B n n ca cb Pl M 0 _ hn hm (by omega) (by omega) (.inl hcap) hs6 (Lib.hid (HP.out _ (by (repeat (first | (with_reducible refine Below.drew ?_) | (with_reducible refine below_drewN ?_ _) | (with_reducible refine Below.alloc ?_ (by first | omega | (simp; done) | (simp; omega) | (simp at *; omega)) _) | (with_reducible refine Below.setCell ?_ (by first | omega | (simp; done) | (simp; omega) | (simp at *; omega)) _) | (with_reducible exact Below.refl _ _) | (with_reducible assumption) | (with_reducible refine Below.trans ?_ (Below.mono (by assumption) (by first | omega | (simp; done) | (simp; omega) | (simp at *; omega))))))))) (Lib.hid (HM.out _ (by (repeat (first | (with_reducible refine Below.drew ?_) | (with_reducible refine below_drewN ?_ _) | (with_reducible refine Below.alloc ?_ (by first | omega | (simp; done) | (simp; omega) | (simp at *; omega)) _) | (with_reducible refine Below.setCell ?_ (by first | omega | (simp; done) | (simp; omega) | (simp at *; omega)) _) | (with_reducible exact Below.refl _ _) | (with_reducible assumption) | (with_reducible refine Below.trans ?_ (Below.mono (by assumption) (by first | omega | (simp; done) | (simp; omega) | (simp at *; omega)))))))).mat) hC0).mono ?_
  rintro e x5 ⟨rfl, hb5⟩
  have zz5 := hb5.size
  try simp at zz5
  have hc5 : Below x4.heap.size x4 x5 := (by (repeat (first | (with_reducible refine Below.drew ?_) | (with_reducible refine below_drewN ?_ _) | (with_reducible refine Below.alloc ?_ (by first | omega | (simp; done) | (simp; omega) | (simp at *; omega)) _) | (with_reducible refine Below.setCell ?_ (by first | omega | (simp; done) | (simp; omega) | (simp at *; omega)) _) | (with_reducible exact Below.refl _ _) | (with_reducible assumption) | (with_reducible refine Below.trans ?_ (Below.mono (by assumption) (by first | omega | (simp; done) | (simp; omega) | (simp at *; omega)))))))
  have hB5 : Below u.heap.size u x5 := hB4.trans (hc5.mono hB4.size)
  have zu5 := hB5.size
  clear hb5 hB4 zz4 zu4 hc4 c0 c1 t0 t1 hBe hlt
  obtain ⟨c0, c1, t0, t1, hBe, hlt⟩ := HS.out _ hB5
  go_wp2_with fail
  refine (chart_is A B n n ca cb Pl M _ hn hm (by omega) (by omega) hrs CA (Lib.hid (HP.out _ (by (repeat (first | (with_reducible refine Below.drew ?_) | (with_reducible refine below_drewN ?_ _) | (with_reducible refine Below.alloc ?_ (by first | omega | (simp; done) | (simp; omega) | (simp at *; omega)) _) | (with_reducible refine Below.setCell ?_ (by first | omega | (simp; done) | (simp; omega) | (simp at *; omega)) _) | (with_reducible exact Below.refl _ _) | (with_reducible assumption) | (with_reducible refine Below.trans ?_ (Below.mono (by assumption) (by first | omega | (simp; done) | (simp; omega) | (simp at *; omega))))))))) (Lib.hid (HM.out _ (by (repeat (first | (with_reducible refine Below.drew ?_) | (with_reducible refine below_drewN ?_ _) | (with_reducible refine Below.alloc ?_ (by first | omega | (simp; done) | (simp; omega) | (simp at *; omega)) _) | (with_reducible refine Below.setCell ?_ (by first | omega | (simp; done) | (simp; omega) | (simp at *; omega)) _) | (with_reducible exact Below.refl _ _) | (with_reducible assumption) | (with_reducible refine Below.trans ?_ (Below.mono (by assumption) (by first | omega | (simp; done) | (simp; omega) | (simp at *; omega)))))))))).mono ?_
  rintro e x6 ⟨GC, HC, gc, hc, rfl, hSP, hSM, hb6⟩
  have zz6 := hb6.size
  try simp at zz6
  have hc6 : Below x5.heap.size x5 x6 := (by (repeat (first | (with_reducible refine Below.drew ?_) | (with_reducible refine below_drewN ?_ _) | (with_reducible refine Below.alloc ?_ (by first | omega | (simp; done) | (simp; omega) | (simp at *; omega)) _) | (with_reducible refine Below.setCell ?_ (by first | omega | (simp; done) | (simp; omega) | (simp at *; omega)) _) | (with_reducible exact Below.refl _ _) | (with_reducible assumption) | (with_reducible refine Below.trans ?_ (Below.mono (by assumption) (by first | omega | (simp; done) | (simp; omega) | (simp at *; omega)))))))
  have hB6 : Below u.heap.size u x6 := hB5.trans (hc6.mono hB5.size)
  have zu6 := hB6.size
  have HSP := Lib.hid hSP
  have HSM := Lib.hid hSM.mat
  clear hSP hSM
  clear hb6 hB5 zz5 zu5 hc5 c0 c1 t0 t1 hBe hlt
  obtain ⟨c0, c1, t0, t1, hBe, hlt⟩ := HS.out _ hB6
  go_wp2_with fail
  refine (CheckChart_any GC HC n n gc hc Pl M 0 _ hn hm (by omega) (by omega) hs6 HSP HSM hC0).mono ?_
  rintro e x7 ⟨rfl, hb7⟩
  have zz7 := hb7.size
  try simp at zz7
  have hc7 : Below x6.heap.size x6 x7 := (by (repeat (first | (with_reducible refine Below.drew ?_) | (with_reducible refine below_drewN ?_ _) | (with_reducible refine Below.alloc ?_ (by first | omega | (simp; done) | (simp; omega) | (simp at *; omega)) _) | (with_reducible refine Below.setCell ?_ (by first | omega | (simp; done) | (simp; omega) | (simp at *; omega)) _) | (with_reducible exact Below.refl _ _) | (with_reducible assumption) | (with_reducible refine Below.trans ?_ (Below.mono (by assumption) (by first | omega | (simp; done) | (simp; omega) | (simp at *; omega)))))))
  have hB7 : Below u.heap.size u x7 := hB6.trans (hc7.mono hB6.size)
  have zu7 := hB7.size
  clear HSP HSM
  clear hb7 hB6 zz6 zu6 hc6 c0 c1 t0 t1 hBe hlt
  obtain ⟨c0, c1, t0, t1, hBe, hlt⟩ := HS.out _ hB7
  go_wp2_with fail
  refine (bw_is a0 0 ((n : Int) - 1) false _ hb0).mono ?_
  rintro e w' ⟨rfl, rfl⟩
  go_wp2
  go_ret
  exact ⟨rfl, hBe⟩
set_option maxRecDepth 100000 in
set_option maxHeartbeats 8000000 in
theorem sc_place1 (A B : Option Addr) (n ca cb : Nat) (a0 a1 : Int) (Pl : List ByteArray) (M : List (List Int)) (w : World) (hn : Hid (n = Pl.length)) (hm : Hid (n = M.length)) (hsz : Hid (∀ s ∈ Pl, s.size ≤ 9223372036854775807)) (hrl : Hid (∀ k, k < n → (M.getD k []).length ≤ 9223372036854775807)) (HP0 : Hid (SlRows strV 1 w A Pl)) (HM0 : Hid (SlMatC w B M)) (hF : Hid (flatB Pl M = true)) (hl : n ≤ 14) (hm14 : n ≤ 14) (hcap : n ≤ ca) (hs6 : Hid (∀ s ∈ Pl, s.size ≤ 1000000)) (hrs : Hid (∀ k, k < n → (M.getD k []).length ≤ 1000000)) (CA : Hid (A = none → n = 0 ∧ ca = 0)) (hC0 : Hid (chtE Pl M = 0)) (hb0 : Hid (inB a0 0 ((n : Int) - 1) = true)) (hb1 : Hid (inB a1 0 ((n : Int) - 1) = false)) :
    Calls Tryz.prog 7 #[.agg #[.slice A n ca, .slice B n cb], .agg #[.int .i64 a0, .int .i64 a1]] w fun e w' => e = .returned (.bool true) ∧ Below w.heap.size w w' := by
  have HOK := Lib.hid (chtE_ok hs6.out hC0.out)
  have n12 : n ≤ 12 := by rw [hn.out]; exact HOK.out.n12
  have w1 : IntKind.i64.wrap ((n : Int) - 1) = (n : Int) - 1 := IntWalk.i64_in _ (by omega)
  have hF0 : Hid (plcE n a0 = 0) := Lib.hid (by unfold plcE; rw [hb0.out]; rfl)
  have hG : Hid (plcE n a1 = 6) := Lib.hid (by unfold plcE; rw [hb1.out]; rfl)
  have hFE : Hid (firE [0, 6] = 6) := Lib.hid rfl
  go_enter Tryz.func7, Tryz.ntmps7
  go_upto_region 1 with (fail)
  refine wp_world (ScS A B n n ca cb a0 a1 w) ⟨by simp [go_sem, World.cell?_alloc_past], by simp [go_sem, World.cell?_alloc_past], by simp [go_sem, World.cell?_alloc_past], by simp [go_sem, World.cell?_alloc_past], (by (repeat (first | (with_reducible refine Below.drew ?_) | (with_reducible refine below_drewN ?_ _) | (with_reducible refine Below.alloc ?_ (by first | omega | (simp; done) | (simp; omega) | (simp at *; omega)) _) | (with_reducible refine Below.setCell ?_ (by first | omega | (simp; done) | (simp; omega) | (simp at *; omega)) _) | (with_reducible exact Below.refl _ _) | (with_reducible assumption) | (with_reducible refine Below.trans ?_ (Below.mono (by assumption) (by first | omega | (simp; done) | (simp; omega) | (simp at *; omega))))))), by simp⟩ (fun u hu => ?_)
  have HU := Lib.hid hu
  have HS : Hid (∀ x, Below u.heap.size u x → ScS A B n n ca cb a0 a1 w x) := Lib.hid fun x hx => HU.out.below hx
  have HP : Hid (∀ x, Below u.heap.size u x → SlRows strV 1 x A Pl) := Lib.hid fun x hx => HP0.out.below (HU.out.below hx).be
  have HM : Hid (∀ x, Below u.heap.size u x → SlMatC x B M) := Lib.hid fun x hx => HM0.out.below (HU.out.below hx).be
  obtain ⟨c0, c1, t0, t1, hBe, hlt⟩ := hu
  go_wp2_with fail
  refine (awake_any _).mono ?_
  rintro e x1 ⟨rfl, hb1⟩
  have zz1 := hb1.size
  try simp at zz1
  have hc1 : Below u.heap.size u x1 := (by (repeat (first | (with_reducible refine Below.drew ?_) | (with_reducible refine below_drewN ?_ _) | (with_reducible refine Below.alloc ?_ (by first | omega | (simp; done) | (simp; omega) | (simp at *; omega)) _) | (with_reducible refine Below.setCell ?_ (by first | omega | (simp; done) | (simp; omega) | (simp at *; omega)) _) | (with_reducible exact Below.refl _ _) | (with_reducible assumption) | (with_reducible refine Below.trans ?_ (Below.mono (by assumption) (by first | omega | (simp; done) | (simp; omega) | (simp at *; omega)))))))
  have hB1 : Below u.heap.size u x1 := hc1
  have zu1 := hB1.size
  clear hb1 c0 c1 t0 t1 hBe hlt
  obtain ⟨c0, c1, t0, t1, hBe, hlt⟩ := HS.out _ hB1
  go_wp2_with fail
  refine (flat_any A B n n ca cb Pl M true _ hn hm hsz hrl (Lib.hid (HP.out _ (by (repeat (first | (with_reducible refine Below.drew ?_) | (with_reducible refine below_drewN ?_ _) | (with_reducible refine Below.alloc ?_ (by first | omega | (simp; done) | (simp; omega) | (simp at *; omega)) _) | (with_reducible refine Below.setCell ?_ (by first | omega | (simp; done) | (simp; omega) | (simp at *; omega)) _) | (with_reducible exact Below.refl _ _) | (with_reducible assumption) | (with_reducible refine Below.trans ?_ (Below.mono (by assumption) (by first | omega | (simp; done) | (simp; omega) | (simp at *; omega))))))))) (Lib.hid (HM.out _ (by (repeat (first | (with_reducible refine Below.drew ?_) | (with_reducible refine below_drewN ?_ _) | (with_reducible refine Below.alloc ?_ (by first | omega | (simp; done) | (simp; omega) | (simp at *; omega)) _) | (with_reducible refine Below.setCell ?_ (by first | omega | (simp; done) | (simp; omega) | (simp at *; omega)) _) | (with_reducible exact Below.refl _ _) | (with_reducible assumption) | (with_reducible refine Below.trans ?_ (Below.mono (by assumption) (by first | omega | (simp; done) | (simp; omega) | (simp at *; omega)))))))).mat) hF).mono ?_
  rintro e x2 ⟨rfl, hb2⟩
  have zz2 := hb2.size
  try simp at zz2
  have hc2 : Below x1.heap.size x1 x2 := (by (repeat (first | (with_reducible refine Below.drew ?_) | (with_reducible refine below_drewN ?_ _) | (with_reducible refine Below.alloc ?_ (by first | omega | (simp; done) | (simp; omega) | (simp at *; omega)) _) | (with_reducible refine Below.setCell ?_ (by first | omega | (simp; done) | (simp; omega) | (simp at *; omega)) _) | (with_reducible exact Below.refl _ _) | (with_reducible assumption) | (with_reducible refine Below.trans ?_ (Below.mono (by assumption) (by first | omega | (simp; done) | (simp; omega) | (simp at *; omega)))))))
  have hB2 : Below u.heap.size u x2 := hB1.trans (hc2.mono hB1.size)
  have zu2 := hB2.size
  clear hb2 hB1 zz1 zu1 hc1 c0 c1 t0 t1 hBe hlt
  obtain ⟨c0, c1, t0, t1, hBe, hlt⟩ := HS.out _ hB2
  go_upto_region 5 with (fail)
  refine wp_region_held_drew (S := (fun w' => w'.cell? ⟨w.heap.size, 0, none⟩ = some (.slice A n ca) ∧ w'.cell? ⟨w.heap.size, 1, none⟩ = some (.slice B n cb) ∧ w'.cell? ⟨w.heap.size + 1, 0, none⟩ = some (.int .i64 a0) ∧ w'.cell? ⟨w.heap.size + 1, 1, none⟩ = some (.int .i64 a1))) (by kernel_rfl) (by simp [go_sem, World.cell?_alloc_past, *]) (fun hHeld => ?_)
  refine tkH 0 ⟨some 16, _, _, _, _, _⟩ ?_ rfl ?_ (by assumption) ?_
  rotate_left
  · (intro w hSw; (try dsimp only at hSw); go_simp; all_goals with_reducible rfl)
  try simp only [Act.put, sA, sB, sC]
  refine tkH 2 ⟨some 18, _, _, _, _, _⟩ ?_ rfl ?_ (by assumption) ?_
  rotate_left
  · (intro w hSw; (try dsimp only at hSw); go_simp; all_goals with_reducible rfl)
  try simp only [Act.put, sA, sB, sC]
  refine tkH 3 ⟨some 19, _, _, _, _, _⟩ ?_ rfl ?_ (by assumption) ?_
  rotate_left
  · (intro w hSw; (try dsimp only at hSw); go_simp; all_goals with_reducible rfl)
  try simp only [Act.put, sA, sB, sC]
  refine tkH 4 ⟨some 20, _, _, _, _, _⟩ ?_ rfl ?_ (by assumption) ?_
  rotate_left
  · (intro w hSw; (try dsimp only at hSw); go_simp; all_goals with_reducible rfl)
  try simp only [Act.put, sA, sB, sC]
  refine tkH 5 ⟨some 21, _, _, _, _, _⟩ ?_ rfl ?_ (by assumption) ?_
  rotate_left
  · (intro w hSw; (try dsimp only at hSw); go_simp; all_goals with_reducible rfl)
  try simp only [Act.put, sA, sB, sC]
  refine wpAnyH_ready (rs := [1]) (by kernel_rfl) (by simp) ?_
  refine AllReadyH.cons rfl (fun K hK => ?_) AllReadyH.nil
  go_simp
  refine (chart_is A B n n ca cb Pl M _ hn hm (by omega) (by omega) hrs CA (Lib.hid (HP.out _ (by (repeat (first | (with_reducible refine Below.drew ?_) | (with_reducible refine below_drewN ?_ _) | (with_reducible refine Below.alloc ?_ (by first | omega | (simp; done) | (simp; omega) | (simp at *; omega)) _) | (with_reducible refine Below.setCell ?_ (by first | omega | (simp; done) | (simp; omega) | (simp at *; omega)) _) | (with_reducible exact Below.refl _ _) | (with_reducible assumption) | (with_reducible refine Below.trans ?_ (Below.mono (by assumption) (by first | omega | (simp; done) | (simp; omega) | (simp at *; omega))))))))) (Lib.hid (HM.out _ (by (repeat (first | (with_reducible refine Below.drew ?_) | (with_reducible refine below_drewN ?_ _) | (with_reducible refine Below.alloc ?_ (by first | omega | (simp; done) | (simp; omega) | (simp at *; omega)) _) | (with_reducible refine Below.setCell ?_ (by first | omega | (simp; done) | (simp; omega) | (simp at *; omega)) _) | (with_reducible exact Below.refl _ _) | (with_reducible assumption) | (with_reducible refine Below.trans ?_ (Below.mono (by assumption) (by first | omega | (simp; done) | (simp; omega) | (simp at *; omega)))))))))).mono ?_
  rintro e x3 ⟨GC, HC, gc, hc, rfl, hSP, hSM, hb3⟩
  have zz3 := hb3.size
  try simp at zz3
  have hc3 : Below x2.heap.size x2 x3 := (by (repeat (first | (with_reducible refine Below.drew ?_) | (with_reducible refine below_drewN ?_ _) | (with_reducible refine Below.alloc ?_ (by first | omega | (simp; done) | (simp; omega) | (simp at *; omega)) _) | (with_reducible refine Below.setCell ?_ (by first | omega | (simp; done) | (simp; omega) | (simp at *; omega)) _) | (with_reducible exact Below.refl _ _) | (with_reducible assumption) | (with_reducible refine Below.trans ?_ (Below.mono (by assumption) (by first | omega | (simp; done) | (simp; omega) | (simp at *; omega)))))))
  have hB3 : Below u.heap.size u x3 := hB2.trans (hc3.mono hB2.size)
  have zu3 := hB3.size
  have HSP := Lib.hid hSP
  have HSM := Lib.hid hSM.mat
  clear hSP hSM
  clear hb3 hB2 zz2 zu2 hc2 c0 c1 t0 t1 hBe hlt
  obtain ⟨c0, c1, t0, t1, hBe, hlt⟩ := HS.out _ hB3
  go_wp2_with fail
  refine hK.out _ _ (by simp [go_sem, World.cell?_alloc_past, *]) (fun hHeld => ?_)
  clear hK K
  try simp only [Act.put, sA, sB, sC]
  refine wpAnyH_ready (rs := [6]) (by kernel_rfl) (by simp) ?_
  refine AllReadyH.cons rfl (fun K hK => ?_) AllReadyH.nil
  go_simp
  refine (Way_place GC HC n gc hc Pl M a0 a1 0 6 6 _ hC0 n12 (Lib.hid ⟨hn.out, HOK.out, HSP.out, HSM.out⟩) hF0 hG hFE (by decide)).mono ?_
  rintro e x4 ⟨rfl, hb4⟩
  have zz4 := hb4.size
  try simp at zz4
  have hc4 : Below x3.heap.size x3 x4 := (by (repeat (first | (with_reducible refine Below.drew ?_) | (with_reducible refine below_drewN ?_ _) | (with_reducible refine Below.alloc ?_ (by first | omega | (simp; done) | (simp; omega) | (simp at *; omega)) _) | (with_reducible refine Below.setCell ?_ (by first | omega | (simp; done) | (simp; omega) | (simp at *; omega)) _) | (with_reducible exact Below.refl _ _) | (with_reducible assumption) | (with_reducible refine Below.trans ?_ (Below.mono (by assumption) (by first | omega | (simp; done) | (simp; omega) | (simp at *; omega)))))))
  have hB4 : Below u.heap.size u x4 := hB3.trans (hc4.mono hB3.size)
  have zu4 := hB4.size
  clear HSP HSM
  clear hb4 hB3 zz3 zu3 hc3 c0 c1 t0 t1 hBe hlt
  obtain ⟨c0, c1, t0, t1, hBe, hlt⟩ := HS.out _ hB4
  go_wp2_with fail
  refine hK.out _ _ (by simp [go_sem, World.cell?_alloc_past, *]) (fun hHeld => ?_)
  clear hK K
  try simp only [Act.put, sA, sB, sC]
  refine tkH 7 ⟨some 15, _, _, _, _, _⟩ ?_ rfl ?_ (by assumption) ?_
  rotate_left
  · (intro w hSw; (try dsimp only at hSw); go_simp; all_goals with_reducible rfl)
  try simp only [Act.put, sA, sB, sC]
  refine tkH 8 ⟨some 23, _, _, _, _, _⟩ ?_ rfl ?_ (by assumption) ?_
  rotate_left
  · (intro w hSw; (try dsimp only at hSw); go_simp; all_goals with_reducible rfl)
  try simp only [Act.put, sA, sB, sC]
  refine tkH 9 ⟨some 24, _, _, _, _, _⟩ ?_ rfl ?_ (by assumption) ?_
  rotate_left
  · (intro w hSw; (try dsimp only at hSw); go_simp; all_goals with_reducible rfl)
  try simp only [Act.put, sA, sB, sC]
  refine tkH 10 ⟨some 25, _, _, _, _, _⟩ ?_ rfl ?_ (by assumption) ?_
  rotate_left
  · (intro w hSw; (try dsimp only at hSw); go_simp; all_goals with_reducible rfl)
  try simp only [Act.put, sA, sB, sC]
  refine tkH 11 ⟨some 5, _, _, _, _, _⟩ ?_ rfl ?_ (by assumption) ?_
  rotate_left
  · (intro w hSw; (try dsimp only at hSw); go_simp; all_goals with_reducible rfl)
  try simp only [Act.put, sA, sB, sC]
  refine tkH 12 ⟨some 6, _, _, _, _, _⟩ ?_ rfl ?_ (by assumption) ?_
  rotate_left
  · (intro w hSw; (try dsimp only at hSw); go_simp; all_goals with_reducible rfl)
  try simp only [Act.put, sA, sB, sC]
  refine tkH 13 ⟨some 7, _, _, _, _, _⟩ ?_ rfl ?_ (by assumption) ?_
  rotate_left
  · (intro w hSw; (try dsimp only at hSw); go_simp; all_goals with_reducible rfl)
  try simp only [Act.put, sA, sB, sC]
  refine wpAnyH_done (by kernel_rfl) ?_ _
  go_wp2_with fail
  refine (refChart_any A B n n ca cb Pl M 0 _ hn hm (by omega) (by omega) (.inl hcap) hs6 (Lib.hid (HP.out _ (by (repeat (first | (with_reducible refine Below.drew ?_) | (with_reducible refine below_drewN ?_ _) | (with_reducible refine Below.alloc ?_ (by first | omega | (simp; done) | (simp; omega) | (simp at *; omega)) _) | (with_reducible refine Below.setCell ?_ (by first | omega | (simp; done) | (simp; omega) | (simp at *; omega)) _) | (with_reducible exact Below.refl _ _) | (with_reducible assumption) | (with_reducible refine Below.trans ?_ (Below.mono (by assumption) (by first | omega | (simp; done) | (simp; omega) | (simp at *; omega))))))))) (Lib.hid (HM.out _ (by (repeat (first | (with_reducible refine Below.drew ?_) | (with_reducible refine below_drewN ?_ _) | (with_reducible refine Below.alloc ?_ (by first | omega | (simp; done) | (simp; omega) | (simp at *; omega)) _) | (with_reducible refine Below.setCell ?_ (by first | omega | (simp; done) | (simp; omega) | (simp at *; omega)) _) | (with_reducible exact Below.refl _ _) | (with_reducible assumption) | (with_reducible refine Below.trans ?_ (Below.mono (by assumption) (by first | omega | (simp; done) | (simp; omega) | (simp at *; omega)))))))).mat) hC0).mono ?_
  rintro e x5 ⟨rfl, hb5⟩
  have zz5 := hb5.size
  try simp at zz5
  have hc5 : Below x4.heap.size x4 x5 := (by (repeat (first | (with_reducible refine Below.drew ?_) | (with_reducible refine below_drewN ?_ _) | (with_reducible refine Below.alloc ?_ (by first | omega | (simp; done) | (simp; omega) | (simp at *; omega)) _) | (with_reducible refine Below.setCell ?_ (by first | omega | (simp; done) | (simp; omega) | (simp at *; omega)) _) | (with_reducible exact Below.refl _ _) | (with_reducible assumption) | (with_reducible refine Below.trans ?_ (Below.mono (by assumption) (by first | omega | (simp; done) | (simp; omega) | (simp at *; omega)))))))
  have hB5 : Below u.heap.size u x5 := hB4.trans (hc5.mono hB4.size)
  have zu5 := hB5.size
  clear hb5 hB4 zz4 zu4 hc4 c0 c1 t0 t1 hBe hlt
  obtain ⟨c0, c1, t0, t1, hBe, hlt⟩ := HS.out _ hB5
  go_wp2_with fail
  refine (chart_is A B n n ca cb Pl M _ hn hm (by omega) (by omega) hrs CA (Lib.hid (HP.out _ (by (repeat (first | (with_reducible refine Below.drew ?_) | (with_reducible refine below_drewN ?_ _) | (with_reducible refine Below.alloc ?_ (by first | omega | (simp; done) | (simp; omega) | (simp at *; omega)) _) | (with_reducible refine Below.setCell ?_ (by first | omega | (simp; done) | (simp; omega) | (simp at *; omega)) _) | (with_reducible exact Below.refl _ _) | (with_reducible assumption) | (with_reducible refine Below.trans ?_ (Below.mono (by assumption) (by first | omega | (simp; done) | (simp; omega) | (simp at *; omega))))))))) (Lib.hid (HM.out _ (by (repeat (first | (with_reducible refine Below.drew ?_) | (with_reducible refine below_drewN ?_ _) | (with_reducible refine Below.alloc ?_ (by first | omega | (simp; done) | (simp; omega) | (simp at *; omega)) _) | (with_reducible refine Below.setCell ?_ (by first | omega | (simp; done) | (simp; omega) | (simp at *; omega)) _) | (with_reducible exact Below.refl _ _) | (with_reducible assumption) | (with_reducible refine Below.trans ?_ (Below.mono (by assumption) (by first | omega | (simp; done) | (simp; omega) | (simp at *; omega)))))))))).mono ?_
  rintro e x6 ⟨GC, HC, gc, hc, rfl, hSP, hSM, hb6⟩
  have zz6 := hb6.size
  try simp at zz6
  have hc6 : Below x5.heap.size x5 x6 := (by (repeat (first | (with_reducible refine Below.drew ?_) | (with_reducible refine below_drewN ?_ _) | (with_reducible refine Below.alloc ?_ (by first | omega | (simp; done) | (simp; omega) | (simp at *; omega)) _) | (with_reducible refine Below.setCell ?_ (by first | omega | (simp; done) | (simp; omega) | (simp at *; omega)) _) | (with_reducible exact Below.refl _ _) | (with_reducible assumption) | (with_reducible refine Below.trans ?_ (Below.mono (by assumption) (by first | omega | (simp; done) | (simp; omega) | (simp at *; omega)))))))
  have hB6 : Below u.heap.size u x6 := hB5.trans (hc6.mono hB5.size)
  have zu6 := hB6.size
  have HSP := Lib.hid hSP
  have HSM := Lib.hid hSM.mat
  clear hSP hSM
  clear hb6 hB5 zz5 zu5 hc5 c0 c1 t0 t1 hBe hlt
  obtain ⟨c0, c1, t0, t1, hBe, hlt⟩ := HS.out _ hB6
  go_wp2_with fail
  refine (CheckChart_any GC HC n n gc hc Pl M 0 _ hn hm (by omega) (by omega) hs6 HSP HSM hC0).mono ?_
  rintro e x7 ⟨rfl, hb7⟩
  have zz7 := hb7.size
  try simp at zz7
  have hc7 : Below x6.heap.size x6 x7 := (by (repeat (first | (with_reducible refine Below.drew ?_) | (with_reducible refine below_drewN ?_ _) | (with_reducible refine Below.alloc ?_ (by first | omega | (simp; done) | (simp; omega) | (simp at *; omega)) _) | (with_reducible refine Below.setCell ?_ (by first | omega | (simp; done) | (simp; omega) | (simp at *; omega)) _) | (with_reducible exact Below.refl _ _) | (with_reducible assumption) | (with_reducible refine Below.trans ?_ (Below.mono (by assumption) (by first | omega | (simp; done) | (simp; omega) | (simp at *; omega)))))))
  have hB7 : Below u.heap.size u x7 := hB6.trans (hc7.mono hB6.size)
  have zu7 := hB7.size
  clear HSP HSM
  clear hb7 hB6 zz6 zu6 hc6 c0 c1 t0 t1 hBe hlt
  obtain ⟨c0, c1, t0, t1, hBe, hlt⟩ := HS.out _ hB7
  go_wp2_with fail
  refine (bw_is a0 0 ((n : Int) - 1) true _ hb0).mono ?_
  rintro e w' ⟨rfl, rfl⟩
  go_wp2_with fail
  refine (bw_is a1 0 ((n : Int) - 1) false _ hb1).mono ?_
  rintro e w' ⟨rfl, rfl⟩
  go_wp2
  go_ret
  exact ⟨rfl, hBe⟩
set_option maxRecDepth 100000 in
set_option maxHeartbeats 8000000 in
theorem sc_none (A B : Option Addr) (n ca cb : Nat) (fr tt : Nat) (Pl : List ByteArray) (M : List (List Int)) (w : World) (hn : Hid (n = Pl.length)) (hm : Hid (n = M.length)) (hsz : Hid (∀ s ∈ Pl, s.size ≤ 9223372036854775807)) (hrl : Hid (∀ k, k < n → (M.getD k []).length ≤ 9223372036854775807)) (HP0 : Hid (SlRows strV 1 w A Pl)) (HM0 : Hid (SlMatC w B M)) (hF : Hid (flatB Pl M = true)) (hl : n ≤ 14) (hm14 : n ≤ 14) (hcap : n ≤ ca) (hs6 : Hid (∀ s ∈ Pl, s.size ≤ 1000000)) (hrs : Hid (∀ k, k < n → (M.getD k []).length ≤ 1000000)) (CA : Hid (A = none → n = 0 ∧ ca = 0)) (hC0 : Hid (chtE Pl M = 0)) (hn0 : 0 < n) (hf : fr < n) (ht : tt < n) (hP : Hid (((gRnd (gZero n fr) M n n).getD tt default).ps = [])) :
    Calls Tryz.prog 7 #[.agg #[.slice A n ca, .slice B n cb], .agg #[.int .i64 (fr : Int), .int .i64 (tt : Int)]] w fun e w' => e = .returned (.bool true) ∧ Below w.heap.size w w' := by
  have HOK := Lib.hid (chtE_ok hs6.out hC0.out)
  have n12 : n ≤ 12 := by rw [hn.out]; exact HOK.out.n12
  have w1 : IntKind.i64.wrap ((n : Int) - 1) = (n : Int) - 1 := IntWalk.i64_in _ (by omega)
  have hb0 : Hid (inB (fr : Int) 0 ((n : Int) - 1) = true) := Lib.hid (inB_true (by omega) (by omega))
  have hb1 : Hid (inB (tt : Int) 0 ((n : Int) - 1) = true) := Lib.hid (inB_true (by omega) (by omega))
  have hL : Hid ((bRnd (bZero n fr) M n n).getD tt 0 = -1) := Lib.hid (by rw [least_way hn.out HOK.out hf ht]; unfold tv; rw [if_pos hP.out])
  go_enter Tryz.func7, Tryz.ntmps7
  go_upto_region 1 with (fail)
  refine wp_world (ScS A B n n ca cb (fr : Int) (tt : Int) w) ⟨by simp [go_sem, World.cell?_alloc_past], by simp [go_sem, World.cell?_alloc_past], by simp [go_sem, World.cell?_alloc_past], by simp [go_sem, World.cell?_alloc_past], (by (repeat (first | (with_reducible refine Below.drew ?_) | (with_reducible refine below_drewN ?_ _) | (with_reducible refine Below.alloc ?_ (by first | omega | (simp; done) | (simp; omega) | (simp at *; omega)) _) | (with_reducible refine Below.setCell ?_ (by first | omega | (simp; done) | (simp; omega) | (simp at *; omega)) _) | (with_reducible exact Below.refl _ _) | (with_reducible assumption) | (with_reducible refine Below.trans ?_ (Below.mono (by assumption) (by first | omega | (simp; done) | (simp; omega) | (simp at *; omega))))))), by simp⟩ (fun u hu => ?_)
  have HU := Lib.hid hu
  have HS : Hid (∀ x, Below u.heap.size u x → ScS A B n n ca cb (fr : Int) (tt : Int) w x) := Lib.hid fun x hx => HU.out.below hx
  have HP : Hid (∀ x, Below u.heap.size u x → SlRows strV 1 x A Pl) := Lib.hid fun x hx => HP0.out.below (HU.out.below hx).be
  have HM : Hid (∀ x, Below u.heap.size u x → SlMatC x B M) := Lib.hid fun x hx => HM0.out.below (HU.out.below hx).be
  obtain ⟨c0, c1, t0, t1, hBe, hlt⟩ := hu
  go_wp2_with fail
  refine (awake_any _).mono ?_
  rintro e x1 ⟨rfl, hb1⟩
  have zz1 := hb1.size
  try simp at zz1
  have hc1 : Below u.heap.size u x1 := (by (repeat (first | (with_reducible refine Below.drew ?_) | (with_reducible refine below_drewN ?_ _) | (with_reducible refine Below.alloc ?_ (by first | omega | (simp; done) | (simp; omega) | (simp at *; omega)) _) | (with_reducible refine Below.setCell ?_ (by first | omega | (simp; done) | (simp; omega) | (simp at *; omega)) _) | (with_reducible exact Below.refl _ _) | (with_reducible assumption) | (with_reducible refine Below.trans ?_ (Below.mono (by assumption) (by first | omega | (simp; done) | (simp; omega) | (simp at *; omega)))))))
  have hB1 : Below u.heap.size u x1 := hc1
  have zu1 := hB1.size
  clear hb1 c0 c1 t0 t1 hBe hlt
  obtain ⟨c0, c1, t0, t1, hBe, hlt⟩ := HS.out _ hB1
  go_wp2_with fail
  refine (flat_any A B n n ca cb Pl M true _ hn hm hsz hrl (Lib.hid (HP.out _ (by (repeat (first | (with_reducible refine Below.drew ?_) | (with_reducible refine below_drewN ?_ _) | (with_reducible refine Below.alloc ?_ (by first | omega | (simp; done) | (simp; omega) | (simp at *; omega)) _) | (with_reducible refine Below.setCell ?_ (by first | omega | (simp; done) | (simp; omega) | (simp at *; omega)) _) | (with_reducible exact Below.refl _ _) | (with_reducible assumption) | (with_reducible refine Below.trans ?_ (Below.mono (by assumption) (by first | omega | (simp; done) | (simp; omega) | (simp at *; omega))))))))) (Lib.hid (HM.out _ (by (repeat (first | (with_reducible refine Below.drew ?_) | (with_reducible refine below_drewN ?_ _) | (with_reducible refine Below.alloc ?_ (by first | omega | (simp; done) | (simp; omega) | (simp at *; omega)) _) | (with_reducible refine Below.setCell ?_ (by first | omega | (simp; done) | (simp; omega) | (simp at *; omega)) _) | (with_reducible exact Below.refl _ _) | (with_reducible assumption) | (with_reducible refine Below.trans ?_ (Below.mono (by assumption) (by first | omega | (simp; done) | (simp; omega) | (simp at *; omega)))))))).mat) hF).mono ?_
  rintro e x2 ⟨rfl, hb2⟩
  have zz2 := hb2.size
  try simp at zz2
  have hc2 : Below x1.heap.size x1 x2 := (by (repeat (first | (with_reducible refine Below.drew ?_) | (with_reducible refine below_drewN ?_ _) | (with_reducible refine Below.alloc ?_ (by first | omega | (simp; done) | (simp; omega) | (simp at *; omega)) _) | (with_reducible refine Below.setCell ?_ (by first | omega | (simp; done) | (simp; omega) | (simp at *; omega)) _) | (with_reducible exact Below.refl _ _) | (with_reducible assumption) | (with_reducible refine Below.trans ?_ (Below.mono (by assumption) (by first | omega | (simp; done) | (simp; omega) | (simp at *; omega)))))))
  have hB2 : Below u.heap.size u x2 := hB1.trans (hc2.mono hB1.size)
  have zu2 := hB2.size
  clear hb2 hB1 zz1 zu1 hc1 c0 c1 t0 t1 hBe hlt
  obtain ⟨c0, c1, t0, t1, hBe, hlt⟩ := HS.out _ hB2
  go_upto_region 5 with (fail)
  refine wp_region_held_drew (S := (fun w' => w'.cell? ⟨w.heap.size, 0, none⟩ = some (.slice A n ca) ∧ w'.cell? ⟨w.heap.size, 1, none⟩ = some (.slice B n cb) ∧ w'.cell? ⟨w.heap.size + 1, 0, none⟩ = some (.int .i64 (fr : Int)) ∧ w'.cell? ⟨w.heap.size + 1, 1, none⟩ = some (.int .i64 (tt : Int)))) (by kernel_rfl) (by simp [go_sem, World.cell?_alloc_past, *]) (fun hHeld => ?_)
  refine tkH 0 ⟨some 16, _, _, _, _, _⟩ ?_ rfl ?_ (by assumption) ?_
  rotate_left
  · (intro w hSw; (try dsimp only at hSw); go_simp; all_goals with_reducible rfl)
  try simp only [Act.put, sA, sB, sC]
  refine tkH 2 ⟨some 18, _, _, _, _, _⟩ ?_ rfl ?_ (by assumption) ?_
  rotate_left
  · (intro w hSw; (try dsimp only at hSw); go_simp; all_goals with_reducible rfl)
  try simp only [Act.put, sA, sB, sC]
  refine tkH 3 ⟨some 19, _, _, _, _, _⟩ ?_ rfl ?_ (by assumption) ?_
  rotate_left
  · (intro w hSw; (try dsimp only at hSw); go_simp; all_goals with_reducible rfl)
  try simp only [Act.put, sA, sB, sC]
  refine tkH 4 ⟨some 20, _, _, _, _, _⟩ ?_ rfl ?_ (by assumption) ?_
  rotate_left
  · (intro w hSw; (try dsimp only at hSw); go_simp; all_goals with_reducible rfl)
  try simp only [Act.put, sA, sB, sC]
  refine tkH 5 ⟨some 21, _, _, _, _, _⟩ ?_ rfl ?_ (by assumption) ?_
  rotate_left
  · (intro w hSw; (try dsimp only at hSw); go_simp; all_goals with_reducible rfl)
  try simp only [Act.put, sA, sB, sC]
  refine wpAnyH_ready (rs := [1]) (by kernel_rfl) (by simp) ?_
  refine AllReadyH.cons rfl (fun K hK => ?_) AllReadyH.nil
  go_simp
  refine (chart_is A B n n ca cb Pl M _ hn hm (by omega) (by omega) hrs CA (Lib.hid (HP.out _ (by (repeat (first | (with_reducible refine Below.drew ?_) | (with_reducible refine below_drewN ?_ _) | (with_reducible refine Below.alloc ?_ (by first | omega | (simp; done) | (simp; omega) | (simp at *; omega)) _) | (with_reducible refine Below.setCell ?_ (by first | omega | (simp; done) | (simp; omega) | (simp at *; omega)) _) | (with_reducible exact Below.refl _ _) | (with_reducible assumption) | (with_reducible refine Below.trans ?_ (Below.mono (by assumption) (by first | omega | (simp; done) | (simp; omega) | (simp at *; omega))))))))) (Lib.hid (HM.out _ (by (repeat (first | (with_reducible refine Below.drew ?_) | (with_reducible refine below_drewN ?_ _) | (with_reducible refine Below.alloc ?_ (by first | omega | (simp; done) | (simp; omega) | (simp at *; omega)) _) | (with_reducible refine Below.setCell ?_ (by first | omega | (simp; done) | (simp; omega) | (simp at *; omega)) _) | (with_reducible exact Below.refl _ _) | (with_reducible assumption) | (with_reducible refine Below.trans ?_ (Below.mono (by assumption) (by first | omega | (simp; done) | (simp; omega) | (simp at *; omega)))))))))).mono ?_
  rintro e x3 ⟨GC, HC, gc, hc, rfl, hSP, hSM, hb3⟩
  have zz3 := hb3.size
  try simp at zz3
  have hc3 : Below x2.heap.size x2 x3 := (by (repeat (first | (with_reducible refine Below.drew ?_) | (with_reducible refine below_drewN ?_ _) | (with_reducible refine Below.alloc ?_ (by first | omega | (simp; done) | (simp; omega) | (simp at *; omega)) _) | (with_reducible refine Below.setCell ?_ (by first | omega | (simp; done) | (simp; omega) | (simp at *; omega)) _) | (with_reducible exact Below.refl _ _) | (with_reducible assumption) | (with_reducible refine Below.trans ?_ (Below.mono (by assumption) (by first | omega | (simp; done) | (simp; omega) | (simp at *; omega)))))))
  have hB3 : Below u.heap.size u x3 := hB2.trans (hc3.mono hB2.size)
  have zu3 := hB3.size
  have HSP := Lib.hid hSP
  have HSM := Lib.hid hSM.mat
  clear hSP hSM
  clear hb3 hB2 zz2 zu2 hc2 c0 c1 t0 t1 hBe hlt
  obtain ⟨c0, c1, t0, t1, hBe, hlt⟩ := HS.out _ hB3
  go_wp2_with fail
  refine hK.out _ _ (by simp [go_sem, World.cell?_alloc_past, *]) (fun hHeld => ?_)
  clear hK K
  try simp only [Act.put, sA, sB, sC]
  refine wpAnyH_ready (rs := [6]) (by kernel_rfl) (by simp) ?_
  refine AllReadyH.cons rfl (fun K hK => ?_) AllReadyH.nil
  go_simp
  refine (Way_none GC HC n gc hc Pl M fr tt _ hn0 n12 (Lib.hid ⟨hn.out, HOK.out, HSP.out, HSM.out⟩) hf ht hP).mono ?_
  rintro e x4 ⟨rfl, hb4⟩
  have zz4 := hb4.size
  try simp at zz4
  have hc4 : Below x3.heap.size x3 x4 := (by (repeat (first | (with_reducible refine Below.drew ?_) | (with_reducible refine below_drewN ?_ _) | (with_reducible refine Below.alloc ?_ (by first | omega | (simp; done) | (simp; omega) | (simp at *; omega)) _) | (with_reducible refine Below.setCell ?_ (by first | omega | (simp; done) | (simp; omega) | (simp at *; omega)) _) | (with_reducible exact Below.refl _ _) | (with_reducible assumption) | (with_reducible refine Below.trans ?_ (Below.mono (by assumption) (by first | omega | (simp; done) | (simp; omega) | (simp at *; omega)))))))
  have hB4 : Below u.heap.size u x4 := hB3.trans (hc4.mono hB3.size)
  have zu4 := hB4.size
  clear HSP HSM
  clear hb4 hB3 zz3 zu3 hc3 c0 c1 t0 t1 hBe hlt
  obtain ⟨c0, c1, t0, t1, hBe, hlt⟩ := HS.out _ hB4
  go_wp2_with fail
  refine hK.out _ _ (by simp [go_sem, World.cell?_alloc_past, *]) (fun hHeld => ?_)
  clear hK K
  try simp only [Act.put, sA, sB, sC]
  refine tkH 7 ⟨some 15, _, _, _, _, _⟩ ?_ rfl ?_ (by assumption) ?_
  rotate_left
  · (intro w hSw; (try dsimp only at hSw); go_simp; all_goals with_reducible rfl)
  try simp only [Act.put, sA, sB, sC]
  refine tkH 8 ⟨some 23, _, _, _, _, _⟩ ?_ rfl ?_ (by assumption) ?_
  rotate_left
  · (intro w hSw; (try dsimp only at hSw); go_simp; all_goals with_reducible rfl)
  try simp only [Act.put, sA, sB, sC]
  refine tkH 9 ⟨some 24, _, _, _, _, _⟩ ?_ rfl ?_ (by assumption) ?_
  rotate_left
  · (intro w hSw; (try dsimp only at hSw); go_simp; all_goals with_reducible rfl)
  try simp only [Act.put, sA, sB, sC]
  refine tkH 10 ⟨some 25, _, _, _, _, _⟩ ?_ rfl ?_ (by assumption) ?_
  rotate_left
  · (intro w hSw; (try dsimp only at hSw); go_simp; all_goals with_reducible rfl)
  try simp only [Act.put, sA, sB, sC]
  refine tkH 11 ⟨some 5, _, _, _, _, _⟩ ?_ rfl ?_ (by assumption) ?_
  rotate_left
  · (intro w hSw; (try dsimp only at hSw); go_simp; all_goals with_reducible rfl)
  try simp only [Act.put, sA, sB, sC]
  refine tkH 12 ⟨some 6, _, _, _, _, _⟩ ?_ rfl ?_ (by assumption) ?_
  rotate_left
  · (intro w hSw; (try dsimp only at hSw); go_simp; all_goals with_reducible rfl)
  try simp only [Act.put, sA, sB, sC]
  refine tkH 13 ⟨some 7, _, _, _, _, _⟩ ?_ rfl ?_ (by assumption) ?_
  rotate_left
  · (intro w hSw; (try dsimp only at hSw); go_simp; all_goals with_reducible rfl)
  try simp only [Act.put, sA, sB, sC]
  refine wpAnyH_done (by kernel_rfl) ?_ _
  go_wp2_with fail
  refine (refChart_any A B n n ca cb Pl M 0 _ hn hm (by omega) (by omega) (.inl hcap) hs6 (Lib.hid (HP.out _ (by (repeat (first | (with_reducible refine Below.drew ?_) | (with_reducible refine below_drewN ?_ _) | (with_reducible refine Below.alloc ?_ (by first | omega | (simp; done) | (simp; omega) | (simp at *; omega)) _) | (with_reducible refine Below.setCell ?_ (by first | omega | (simp; done) | (simp; omega) | (simp at *; omega)) _) | (with_reducible exact Below.refl _ _) | (with_reducible assumption) | (with_reducible refine Below.trans ?_ (Below.mono (by assumption) (by first | omega | (simp; done) | (simp; omega) | (simp at *; omega))))))))) (Lib.hid (HM.out _ (by (repeat (first | (with_reducible refine Below.drew ?_) | (with_reducible refine below_drewN ?_ _) | (with_reducible refine Below.alloc ?_ (by first | omega | (simp; done) | (simp; omega) | (simp at *; omega)) _) | (with_reducible refine Below.setCell ?_ (by first | omega | (simp; done) | (simp; omega) | (simp at *; omega)) _) | (with_reducible exact Below.refl _ _) | (with_reducible assumption) | (with_reducible refine Below.trans ?_ (Below.mono (by assumption) (by first | omega | (simp; done) | (simp; omega) | (simp at *; omega)))))))).mat) hC0).mono ?_
  rintro e x5 ⟨rfl, hb5⟩
  have zz5 := hb5.size
  try simp at zz5
  have hc5 : Below x4.heap.size x4 x5 := (by (repeat (first | (with_reducible refine Below.drew ?_) | (with_reducible refine below_drewN ?_ _) | (with_reducible refine Below.alloc ?_ (by first | omega | (simp; done) | (simp; omega) | (simp at *; omega)) _) | (with_reducible refine Below.setCell ?_ (by first | omega | (simp; done) | (simp; omega) | (simp at *; omega)) _) | (with_reducible exact Below.refl _ _) | (with_reducible assumption) | (with_reducible refine Below.trans ?_ (Below.mono (by assumption) (by first | omega | (simp; done) | (simp; omega) | (simp at *; omega)))))))
  have hB5 : Below u.heap.size u x5 := hB4.trans (hc5.mono hB4.size)
  have zu5 := hB5.size
  clear hb5 hB4 zz4 zu4 hc4 c0 c1 t0 t1 hBe hlt
  obtain ⟨c0, c1, t0, t1, hBe, hlt⟩ := HS.out _ hB5
  go_wp2_with fail
  refine (chart_is A B n n ca cb Pl M _ hn hm (by omega) (by omega) hrs CA (Lib.hid (HP.out _ (by (repeat (first | (with_reducible refine Below.drew ?_) | (with_reducible refine below_drewN ?_ _) | (with_reducible refine Below.alloc ?_ (by first | omega | (simp; done) | (simp; omega) | (simp at *; omega)) _) | (with_reducible refine Below.setCell ?_ (by first | omega | (simp; done) | (simp; omega) | (simp at *; omega)) _) | (with_reducible exact Below.refl _ _) | (with_reducible assumption) | (with_reducible refine Below.trans ?_ (Below.mono (by assumption) (by first | omega | (simp; done) | (simp; omega) | (simp at *; omega))))))))) (Lib.hid (HM.out _ (by (repeat (first | (with_reducible refine Below.drew ?_) | (with_reducible refine below_drewN ?_ _) | (with_reducible refine Below.alloc ?_ (by first | omega | (simp; done) | (simp; omega) | (simp at *; omega)) _) | (with_reducible refine Below.setCell ?_ (by first | omega | (simp; done) | (simp; omega) | (simp at *; omega)) _) | (with_reducible exact Below.refl _ _) | (with_reducible assumption) | (with_reducible refine Below.trans ?_ (Below.mono (by assumption) (by first | omega | (simp; done) | (simp; omega) | (simp at *; omega)))))))))).mono ?_
  rintro e x6 ⟨GC, HC, gc, hc, rfl, hSP, hSM, hb6⟩
  have zz6 := hb6.size
  try simp at zz6
  have hc6 : Below x5.heap.size x5 x6 := (by (repeat (first | (with_reducible refine Below.drew ?_) | (with_reducible refine below_drewN ?_ _) | (with_reducible refine Below.alloc ?_ (by first | omega | (simp; done) | (simp; omega) | (simp at *; omega)) _) | (with_reducible refine Below.setCell ?_ (by first | omega | (simp; done) | (simp; omega) | (simp at *; omega)) _) | (with_reducible exact Below.refl _ _) | (with_reducible assumption) | (with_reducible refine Below.trans ?_ (Below.mono (by assumption) (by first | omega | (simp; done) | (simp; omega) | (simp at *; omega)))))))
  have hB6 : Below u.heap.size u x6 := hB5.trans (hc6.mono hB5.size)
  have zu6 := hB6.size
  have HSP := Lib.hid hSP
  have HSM := Lib.hid hSM.mat
  clear hSP hSM
  clear hb6 hB5 zz5 zu5 hc5 c0 c1 t0 t1 hBe hlt
  obtain ⟨c0, c1, t0, t1, hBe, hlt⟩ := HS.out _ hB6
  go_wp2_with fail
  refine (CheckChart_any GC HC n n gc hc Pl M 0 _ hn hm (by omega) (by omega) hs6 HSP HSM hC0).mono ?_
  rintro e x7 ⟨rfl, hb7⟩
  have zz7 := hb7.size
  try simp at zz7
  have hc7 : Below x6.heap.size x6 x7 := (by (repeat (first | (with_reducible refine Below.drew ?_) | (with_reducible refine below_drewN ?_ _) | (with_reducible refine Below.alloc ?_ (by first | omega | (simp; done) | (simp; omega) | (simp at *; omega)) _) | (with_reducible refine Below.setCell ?_ (by first | omega | (simp; done) | (simp; omega) | (simp at *; omega)) _) | (with_reducible exact Below.refl _ _) | (with_reducible assumption) | (with_reducible refine Below.trans ?_ (Below.mono (by assumption) (by first | omega | (simp; done) | (simp; omega) | (simp at *; omega)))))))
  have hB7 : Below u.heap.size u x7 := hB6.trans (hc7.mono hB6.size)
  have zu7 := hB7.size
  clear HSP HSM
  clear hb7 hB6 zz6 zu6 hc6 c0 c1 t0 t1 hBe hlt
  obtain ⟨c0, c1, t0, t1, hBe, hlt⟩ := HS.out _ hB7
  go_wp2_with fail
  refine (bw_is (fr : Int) 0 ((n : Int) - 1) true _ hb0).mono ?_
  rintro e w' ⟨rfl, rfl⟩
  go_wp2_with fail
  refine (bw_is (tt : Int) 0 ((n : Int) - 1) true _ hb1).mono ?_
  rintro e w' ⟨rfl, rfl⟩
  go_wp2_with fail
  refine (Least_is A B n ca cb fr tt Pl M (-1) _ hn0 n12 (Lib.hid ⟨hn.out, HOK.out, HP.out _ (by (repeat (first | (with_reducible refine Below.drew ?_) | (with_reducible refine below_drewN ?_ _) | (with_reducible refine Below.alloc ?_ (by first | omega | (simp; done) | (simp; omega) | (simp at *; omega)) _) | (with_reducible refine Below.setCell ?_ (by first | omega | (simp; done) | (simp; omega) | (simp at *; omega)) _) | (with_reducible exact Below.refl _ _) | (with_reducible assumption) | (with_reducible refine Below.trans ?_ (Below.mono (by assumption) (by first | omega | (simp; done) | (simp; omega) | (simp at *; omega))))))), (HM.out _ (by (repeat (first | (with_reducible refine Below.drew ?_) | (with_reducible refine below_drewN ?_ _) | (with_reducible refine Below.alloc ?_ (by first | omega | (simp; done) | (simp; omega) | (simp at *; omega)) _) | (with_reducible refine Below.setCell ?_ (by first | omega | (simp; done) | (simp; omega) | (simp at *; omega)) _) | (with_reducible exact Below.refl _ _) | (with_reducible assumption) | (with_reducible refine Below.trans ?_ (Below.mono (by assumption) (by first | omega | (simp; done) | (simp; omega) | (simp at *; omega)))))))).mat⟩) hf ht hL).mono ?_
  rintro e x8 ⟨rfl, hb8⟩
  have zz8 := hb8.size
  try simp at zz8
  have hc8 : Below x7.heap.size x7 x8 := (by (repeat (first | (with_reducible refine Below.drew ?_) | (with_reducible refine below_drewN ?_ _) | (with_reducible refine Below.alloc ?_ (by first | omega | (simp; done) | (simp; omega) | (simp at *; omega)) _) | (with_reducible refine Below.setCell ?_ (by first | omega | (simp; done) | (simp; omega) | (simp at *; omega)) _) | (with_reducible exact Below.refl _ _) | (with_reducible assumption) | (with_reducible refine Below.trans ?_ (Below.mono (by assumption) (by first | omega | (simp; done) | (simp; omega) | (simp at *; omega)))))))
  have hB8 : Below u.heap.size u x8 := hB7.trans (hc8.mono hB7.size)
  have zu8 := hB8.size
  clear hb8 hB7 zz7 zu7 hc7 c0 c1 t0 t1 hBe hlt
  obtain ⟨c0, c1, t0, t1, hBe, hlt⟩ := HS.out _ hB8
  go_wp2
  go_ret
  exact ⟨rfl, hBe⟩
set_option maxRecDepth 100000 in
set_option maxHeartbeats 8000000 in
theorem sc_way (A B : Option Addr) (n ca cb : Nat) (fr tt : Nat) (Pl : List ByteArray) (M : List (List Int)) (w : World) (hn : Hid (n = Pl.length)) (hm : Hid (n = M.length)) (hsz : Hid (∀ s ∈ Pl, s.size ≤ 9223372036854775807)) (hrl : Hid (∀ k, k < n → (M.getD k []).length ≤ 9223372036854775807)) (HP0 : Hid (SlRows strV 1 w A Pl)) (HM0 : Hid (SlMatC w B M)) (hF : Hid (flatB Pl M = true)) (hl : n ≤ 14) (hm14 : n ≤ 14) (hcap : n ≤ ca) (hs6 : Hid (∀ s ∈ Pl, s.size ≤ 1000000)) (hrs : Hid (∀ k, k < n → (M.getD k []).length ≤ 1000000)) (CA : Hid (A = none → n = 0 ∧ ca = 0)) (hC0 : Hid (chtE Pl M = 0)) (hn0 : 0 < n) (hf : fr < n) (ht : tt < n) (P : List Int) (ll : Nat) (mi : Int) (hP : Hid (((gRnd (gZero n fr) M n n).getD tt default).ps = P)) (hmi : Hid (((gRnd (gZero n fr) M n n).getD tt default).mi = mi)) (hne : Hid (P ≠ [])) (hll : Hid (P.length = ll)) :
    Calls Tryz.prog 7 #[.agg #[.slice A n ca, .slice B n cb], .agg #[.int .i64 (fr : Int), .int .i64 (tt : Int)]] w fun e w' => e = .returned (.bool true) ∧ Below w.heap.size w w' := by
  have HOK := Lib.hid (chtE_ok hs6.out hC0.out)
  have n12 : n ≤ 12 := by rw [hn.out]; exact HOK.out.n12
  have w1 : IntKind.i64.wrap ((n : Int) - 1) = (n : Int) - 1 := IntWalk.i64_in _ (by omega)
  have hb0 : Hid (inB (fr : Int) 0 ((n : Int) - 1) = true) := Lib.hid (inB_true (by omega) (by omega))
  have hb1 : Hid (inB (tt : Int) 0 ((n : Int) - 1) = true) := Lib.hid (inB_true (by omega) (by omega))
  have hWO : Hid (WyOk M n fr (gRnd (gZero n fr) M n n) tt P mi) := Lib.hid (by have h := way_found hn.out HOK.out hf ht (by rw [hP.out]; exact hne.out); rw [hP.out, hmi.out] at h; exact h)
  have hmS : Hid (wSum M P = mi) := Lib.hid hWO.out.mi.symm
  have m0 : 0 ≤ mi := by rw [hWO.out.mi]; exact wSum_nn hWO.out.ok
  have hln : ll ≤ n := by rw [← hll.out]; exact pigeon n P hWO.out.nd hWO.out.bd
  have hl1 : 0 < ll := by
    rw [← hll.out]; exact List.length_pos_iff.2 hne.out
  have hL : Hid ((bRnd (bZero n fr) M n n).getD tt 0 = mi) := Lib.hid (by rw [least_way hn.out HOK.out hf ht]; unfold tv; rw [hP.out, if_neg hne.out, hmi.out])
  go_enter Tryz.func7, Tryz.ntmps7
  go_upto_region 1 with (fail)
  refine wp_world (ScS A B n n ca cb (fr : Int) (tt : Int) w) ⟨by simp [go_sem, World.cell?_alloc_past], by simp [go_sem, World.cell?_alloc_past], by simp [go_sem, World.cell?_alloc_past], by simp [go_sem, World.cell?_alloc_past], (by (repeat (first | (with_reducible refine Below.drew ?_) | (with_reducible refine below_drewN ?_ _) | (with_reducible refine Below.alloc ?_ (by first | omega | (simp; done) | (simp; omega) | (simp at *; omega)) _) | (with_reducible refine Below.setCell ?_ (by first | omega | (simp; done) | (simp; omega) | (simp at *; omega)) _) | (with_reducible exact Below.refl _ _) | (with_reducible assumption) | (with_reducible refine Below.trans ?_ (Below.mono (by assumption) (by first | omega | (simp; done) | (simp; omega) | (simp at *; omega))))))), by simp⟩ (fun u hu => ?_)
  have HU := Lib.hid hu
  have HS : Hid (∀ x, Below u.heap.size u x → ScS A B n n ca cb (fr : Int) (tt : Int) w x) := Lib.hid fun x hx => HU.out.below hx
  have HP : Hid (∀ x, Below u.heap.size u x → SlRows strV 1 x A Pl) := Lib.hid fun x hx => HP0.out.below (HU.out.below hx).be
  have HM : Hid (∀ x, Below u.heap.size u x → SlMatC x B M) := Lib.hid fun x hx => HM0.out.below (HU.out.below hx).be
  obtain ⟨c0, c1, t0, t1, hBe, hlt⟩ := hu
  go_wp2_with fail
  refine (awake_any _).mono ?_
  rintro e x1 ⟨rfl, hb1⟩
  have zz1 := hb1.size
  try simp at zz1
  have hc1 : Below u.heap.size u x1 := (by (repeat (first | (with_reducible refine Below.drew ?_) | (with_reducible refine below_drewN ?_ _) | (with_reducible refine Below.alloc ?_ (by first | omega | (simp; done) | (simp; omega) | (simp at *; omega)) _) | (with_reducible refine Below.setCell ?_ (by first | omega | (simp; done) | (simp; omega) | (simp at *; omega)) _) | (with_reducible exact Below.refl _ _) | (with_reducible assumption) | (with_reducible refine Below.trans ?_ (Below.mono (by assumption) (by first | omega | (simp; done) | (simp; omega) | (simp at *; omega)))))))
  have hB1 : Below u.heap.size u x1 := hc1
  have zu1 := hB1.size
  clear hb1 c0 c1 t0 t1 hBe hlt
  obtain ⟨c0, c1, t0, t1, hBe, hlt⟩ := HS.out _ hB1
  go_wp2_with fail
  refine (flat_any A B n n ca cb Pl M true _ hn hm hsz hrl (Lib.hid (HP.out _ (by (repeat (first | (with_reducible refine Below.drew ?_) | (with_reducible refine below_drewN ?_ _) | (with_reducible refine Below.alloc ?_ (by first | omega | (simp; done) | (simp; omega) | (simp at *; omega)) _) | (with_reducible refine Below.setCell ?_ (by first | omega | (simp; done) | (simp; omega) | (simp at *; omega)) _) | (with_reducible exact Below.refl _ _) | (with_reducible assumption) | (with_reducible refine Below.trans ?_ (Below.mono (by assumption) (by first | omega | (simp; done) | (simp; omega) | (simp at *; omega))))))))) (Lib.hid (HM.out _ (by (repeat (first | (with_reducible refine Below.drew ?_) | (with_reducible refine below_drewN ?_ _) | (with_reducible refine Below.alloc ?_ (by first | omega | (simp; done) | (simp; omega) | (simp at *; omega)) _) | (with_reducible refine Below.setCell ?_ (by first | omega | (simp; done) | (simp; omega) | (simp at *; omega)) _) | (with_reducible exact Below.refl _ _) | (with_reducible assumption) | (with_reducible refine Below.trans ?_ (Below.mono (by assumption) (by first | omega | (simp; done) | (simp; omega) | (simp at *; omega)))))))).mat) hF).mono ?_
  rintro e x2 ⟨rfl, hb2⟩
  have zz2 := hb2.size
  try simp at zz2
  have hc2 : Below x1.heap.size x1 x2 := (by (repeat (first | (with_reducible refine Below.drew ?_) | (with_reducible refine below_drewN ?_ _) | (with_reducible refine Below.alloc ?_ (by first | omega | (simp; done) | (simp; omega) | (simp at *; omega)) _) | (with_reducible refine Below.setCell ?_ (by first | omega | (simp; done) | (simp; omega) | (simp at *; omega)) _) | (with_reducible exact Below.refl _ _) | (with_reducible assumption) | (with_reducible refine Below.trans ?_ (Below.mono (by assumption) (by first | omega | (simp; done) | (simp; omega) | (simp at *; omega)))))))
  have hB2 : Below u.heap.size u x2 := hB1.trans (hc2.mono hB1.size)
  have zu2 := hB2.size
  clear hb2 hB1 zz1 zu1 hc1 c0 c1 t0 t1 hBe hlt
  obtain ⟨c0, c1, t0, t1, hBe, hlt⟩ := HS.out _ hB2
  go_upto_region 5 with (fail)
  refine wp_region_held_drew (S := (fun w' => w'.cell? ⟨w.heap.size, 0, none⟩ = some (.slice A n ca) ∧ w'.cell? ⟨w.heap.size, 1, none⟩ = some (.slice B n cb) ∧ w'.cell? ⟨w.heap.size + 1, 0, none⟩ = some (.int .i64 (fr : Int)) ∧ w'.cell? ⟨w.heap.size + 1, 1, none⟩ = some (.int .i64 (tt : Int)))) (by kernel_rfl) (by simp [go_sem, World.cell?_alloc_past, *]) (fun hHeld => ?_)
  refine tkH 0 ⟨some 16, _, _, _, _, _⟩ ?_ rfl ?_ (by assumption) ?_
  rotate_left
  · (intro w hSw; (try dsimp only at hSw); go_simp; all_goals with_reducible rfl)
  try simp only [Act.put, sA, sB, sC]
  refine tkH 2 ⟨some 18, _, _, _, _, _⟩ ?_ rfl ?_ (by assumption) ?_
  rotate_left
  · (intro w hSw; (try dsimp only at hSw); go_simp; all_goals with_reducible rfl)
  try simp only [Act.put, sA, sB, sC]
  refine tkH 3 ⟨some 19, _, _, _, _, _⟩ ?_ rfl ?_ (by assumption) ?_
  rotate_left
  · (intro w hSw; (try dsimp only at hSw); go_simp; all_goals with_reducible rfl)
  try simp only [Act.put, sA, sB, sC]
  refine tkH 4 ⟨some 20, _, _, _, _, _⟩ ?_ rfl ?_ (by assumption) ?_
  rotate_left
  · (intro w hSw; (try dsimp only at hSw); go_simp; all_goals with_reducible rfl)
  try simp only [Act.put, sA, sB, sC]
  refine tkH 5 ⟨some 21, _, _, _, _, _⟩ ?_ rfl ?_ (by assumption) ?_
  rotate_left
  · (intro w hSw; (try dsimp only at hSw); go_simp; all_goals with_reducible rfl)
  try simp only [Act.put, sA, sB, sC]
  refine wpAnyH_ready (rs := [1]) (by kernel_rfl) (by simp) ?_
  refine AllReadyH.cons rfl (fun K hK => ?_) AllReadyH.nil
  go_simp
  refine (chart_is A B n n ca cb Pl M _ hn hm (by omega) (by omega) hrs CA (Lib.hid (HP.out _ (by (repeat (first | (with_reducible refine Below.drew ?_) | (with_reducible refine below_drewN ?_ _) | (with_reducible refine Below.alloc ?_ (by first | omega | (simp; done) | (simp; omega) | (simp at *; omega)) _) | (with_reducible refine Below.setCell ?_ (by first | omega | (simp; done) | (simp; omega) | (simp at *; omega)) _) | (with_reducible exact Below.refl _ _) | (with_reducible assumption) | (with_reducible refine Below.trans ?_ (Below.mono (by assumption) (by first | omega | (simp; done) | (simp; omega) | (simp at *; omega))))))))) (Lib.hid (HM.out _ (by (repeat (first | (with_reducible refine Below.drew ?_) | (with_reducible refine below_drewN ?_ _) | (with_reducible refine Below.alloc ?_ (by first | omega | (simp; done) | (simp; omega) | (simp at *; omega)) _) | (with_reducible refine Below.setCell ?_ (by first | omega | (simp; done) | (simp; omega) | (simp at *; omega)) _) | (with_reducible exact Below.refl _ _) | (with_reducible assumption) | (with_reducible refine Below.trans ?_ (Below.mono (by assumption) (by first | omega | (simp; done) | (simp; omega) | (simp at *; omega)))))))))).mono ?_
  rintro e x3 ⟨GC, HC, gc, hc, rfl, hSP, hSM, hb3⟩
  have zz3 := hb3.size
  try simp at zz3
  have hc3 : Below x2.heap.size x2 x3 := (by (repeat (first | (with_reducible refine Below.drew ?_) | (with_reducible refine below_drewN ?_ _) | (with_reducible refine Below.alloc ?_ (by first | omega | (simp; done) | (simp; omega) | (simp at *; omega)) _) | (with_reducible refine Below.setCell ?_ (by first | omega | (simp; done) | (simp; omega) | (simp at *; omega)) _) | (with_reducible exact Below.refl _ _) | (with_reducible assumption) | (with_reducible refine Below.trans ?_ (Below.mono (by assumption) (by first | omega | (simp; done) | (simp; omega) | (simp at *; omega)))))))
  have hB3 : Below u.heap.size u x3 := hB2.trans (hc3.mono hB2.size)
  have zu3 := hB3.size
  have HSP := Lib.hid hSP
  have HSM := Lib.hid hSM.mat
  clear hSP hSM
  clear hb3 hB2 zz2 zu2 hc2 c0 c1 t0 t1 hBe hlt
  obtain ⟨c0, c1, t0, t1, hBe, hlt⟩ := HS.out _ hB3
  go_wp2_with fail
  refine hK.out _ _ (by simp [go_sem, World.cell?_alloc_past, *]) (fun hHeld => ?_)
  clear hK K
  try simp only [Act.put, sA, sB, sC]
  refine wpAnyH_ready (rs := [6]) (by kernel_rfl) (by simp) ?_
  refine AllReadyH.cons rfl (fun K hK => ?_) AllReadyH.nil
  go_simp
  refine (Way_ok GC HC n gc hc fr tt Pl M P ll mi _ hn0 n12 (Lib.hid ⟨hn.out, HOK.out, HSP.out, HSM.out⟩) hf ht hP hmi hne hll).mono ?_
  rintro e x4 ⟨gW, cW, rfl, hRW, lW, hb4, hcW⟩
  have zz4 := hb4.size
  try simp at zz4
  have hc4 : Below x3.heap.size x3 x4 := (by (repeat (first | (with_reducible refine Below.drew ?_) | (with_reducible refine below_drewN ?_ _) | (with_reducible refine Below.alloc ?_ (by first | omega | (simp; done) | (simp; omega) | (simp at *; omega)) _) | (with_reducible refine Below.setCell ?_ (by first | omega | (simp; done) | (simp; omega) | (simp at *; omega)) _) | (with_reducible exact Below.refl _ _) | (with_reducible assumption) | (with_reducible refine Below.trans ?_ (Below.mono (by assumption) (by first | omega | (simp; done) | (simp; omega) | (simp at *; omega)))))))
  have hB4 : Below u.heap.size u x4 := hB3.trans (hc4.mono hB3.size)
  have zu4 := hB4.size
  have HW : Hid (SlRows intV 1 _ (some ⟨gW, 0, none⟩) P) := Lib.hid (.inr ⟨gW, 0, rfl, lW, hRW⟩)
  clear hRW lW
  clear HSP HSM
  clear hb4 hB3 zz3 zu3 hc3 c0 c1 t0 t1 hBe hlt
  obtain ⟨c0, c1, t0, t1, hBe, hlt⟩ := HS.out _ hB4
  go_wp2_with fail
  refine hK.out _ _ (by simp [go_sem, World.cell?_alloc_past, *]) (fun hHeld => ?_)
  clear hK K
  try simp only [Act.put, sA, sB, sC]
  refine tkH 7 ⟨some 15, _, _, _, _, _⟩ ?_ rfl ?_ (by assumption) ?_
  rotate_left
  · (intro w hSw; (try dsimp only at hSw); go_simp; all_goals with_reducible rfl)
  try simp only [Act.put, sA, sB, sC]
  refine tkH 8 ⟨some 23, _, _, _, _, _⟩ ?_ rfl ?_ (by assumption) ?_
  rotate_left
  · (intro w hSw; (try dsimp only at hSw); go_simp; all_goals with_reducible rfl)
  try simp only [Act.put, sA, sB, sC]
  refine tkH 9 ⟨some 24, _, _, _, _, _⟩ ?_ rfl ?_ (by assumption) ?_
  rotate_left
  · (intro w hSw; (try dsimp only at hSw); go_simp; all_goals with_reducible rfl)
  try simp only [Act.put, sA, sB, sC]
  refine tkH 10 ⟨some 25, _, _, _, _, _⟩ ?_ rfl ?_ (by assumption) ?_
  rotate_left
  · (intro w hSw; (try dsimp only at hSw); go_simp; all_goals with_reducible rfl)
  try simp only [Act.put, sA, sB, sC]
  refine tkH 11 ⟨some 5, _, _, _, _, _⟩ ?_ rfl ?_ (by assumption) ?_
  rotate_left
  · (intro w hSw; (try dsimp only at hSw); go_simp; all_goals with_reducible rfl)
  try simp only [Act.put, sA, sB, sC]
  refine tkH 12 ⟨some 6, _, _, _, _, _⟩ ?_ rfl ?_ (by assumption) ?_
  rotate_left
  · (intro w hSw; (try dsimp only at hSw); go_simp; all_goals with_reducible rfl)
  try simp only [Act.put, sA, sB, sC]
  refine tkH 13 ⟨some 7, _, _, _, _, _⟩ ?_ rfl ?_ (by assumption) ?_
  rotate_left
  · (intro w hSw; (try dsimp only at hSw); go_simp; all_goals with_reducible rfl)
  try simp only [Act.put, sA, sB, sC]
  refine wpAnyH_done (by kernel_rfl) ?_ _
  go_wp2_with fail
  refine (refChart_any A B n n ca cb Pl M 0 _ hn hm (by omega) (by omega) (.inl hcap) hs6 (Lib.hid (HP.out _ (by (repeat (first | (with_reducible refine Below.drew ?_) | (with_reducible refine below_drewN ?_ _) | (with_reducible refine Below.alloc ?_ (by first | omega | (simp; done) | (simp; omega) | (simp at *; omega)) _) | (with_reducible refine Below.setCell ?_ (by first | omega | (simp; done) | (simp; omega) | (simp at *; omega)) _) | (with_reducible exact Below.refl _ _) | (with_reducible assumption) | (with_reducible refine Below.trans ?_ (Below.mono (by assumption) (by first | omega | (simp; done) | (simp; omega) | (simp at *; omega))))))))) (Lib.hid (HM.out _ (by (repeat (first | (with_reducible refine Below.drew ?_) | (with_reducible refine below_drewN ?_ _) | (with_reducible refine Below.alloc ?_ (by first | omega | (simp; done) | (simp; omega) | (simp at *; omega)) _) | (with_reducible refine Below.setCell ?_ (by first | omega | (simp; done) | (simp; omega) | (simp at *; omega)) _) | (with_reducible exact Below.refl _ _) | (with_reducible assumption) | (with_reducible refine Below.trans ?_ (Below.mono (by assumption) (by first | omega | (simp; done) | (simp; omega) | (simp at *; omega)))))))).mat) hC0).mono ?_
  rintro e x5 ⟨rfl, hb5⟩
  have zz5 := hb5.size
  try simp at zz5
  have hc5 : Below x4.heap.size x4 x5 := (by (repeat (first | (with_reducible refine Below.drew ?_) | (with_reducible refine below_drewN ?_ _) | (with_reducible refine Below.alloc ?_ (by first | omega | (simp; done) | (simp; omega) | (simp at *; omega)) _) | (with_reducible refine Below.setCell ?_ (by first | omega | (simp; done) | (simp; omega) | (simp at *; omega)) _) | (with_reducible exact Below.refl _ _) | (with_reducible assumption) | (with_reducible refine Below.trans ?_ (Below.mono (by assumption) (by first | omega | (simp; done) | (simp; omega) | (simp at *; omega)))))))
  have hB5 : Below u.heap.size u x5 := hB4.trans (hc5.mono hB4.size)
  have zu5 := hB5.size
  replace HW := Lib.hid (HW.out.below hc5)
  clear hb5 hB4 zz4 zu4 hc4 c0 c1 t0 t1 hBe hlt
  obtain ⟨c0, c1, t0, t1, hBe, hlt⟩ := HS.out _ hB5
  go_wp2_with fail
  refine (chart_is A B n n ca cb Pl M _ hn hm (by omega) (by omega) hrs CA (Lib.hid (HP.out _ (by (repeat (first | (with_reducible refine Below.drew ?_) | (with_reducible refine below_drewN ?_ _) | (with_reducible refine Below.alloc ?_ (by first | omega | (simp; done) | (simp; omega) | (simp at *; omega)) _) | (with_reducible refine Below.setCell ?_ (by first | omega | (simp; done) | (simp; omega) | (simp at *; omega)) _) | (with_reducible exact Below.refl _ _) | (with_reducible assumption) | (with_reducible refine Below.trans ?_ (Below.mono (by assumption) (by first | omega | (simp; done) | (simp; omega) | (simp at *; omega))))))))) (Lib.hid (HM.out _ (by (repeat (first | (with_reducible refine Below.drew ?_) | (with_reducible refine below_drewN ?_ _) | (with_reducible refine Below.alloc ?_ (by first | omega | (simp; done) | (simp; omega) | (simp at *; omega)) _) | (with_reducible refine Below.setCell ?_ (by first | omega | (simp; done) | (simp; omega) | (simp at *; omega)) _) | (with_reducible exact Below.refl _ _) | (with_reducible assumption) | (with_reducible refine Below.trans ?_ (Below.mono (by assumption) (by first | omega | (simp; done) | (simp; omega) | (simp at *; omega)))))))))).mono ?_
  rintro e x6 ⟨GC, HC, gc, hc, rfl, hSP, hSM, hb6⟩
  have zz6 := hb6.size
  try simp at zz6
  have hc6 : Below x5.heap.size x5 x6 := (by (repeat (first | (with_reducible refine Below.drew ?_) | (with_reducible refine below_drewN ?_ _) | (with_reducible refine Below.alloc ?_ (by first | omega | (simp; done) | (simp; omega) | (simp at *; omega)) _) | (with_reducible refine Below.setCell ?_ (by first | omega | (simp; done) | (simp; omega) | (simp at *; omega)) _) | (with_reducible exact Below.refl _ _) | (with_reducible assumption) | (with_reducible refine Below.trans ?_ (Below.mono (by assumption) (by first | omega | (simp; done) | (simp; omega) | (simp at *; omega)))))))
  have hB6 : Below u.heap.size u x6 := hB5.trans (hc6.mono hB5.size)
  have zu6 := hB6.size
  replace HW := Lib.hid (HW.out.below hc6)
  have HSP := Lib.hid hSP
  have HSM := Lib.hid hSM.mat
  clear hSP hSM
  clear hb6 hB5 zz5 zu5 hc5 c0 c1 t0 t1 hBe hlt
  obtain ⟨c0, c1, t0, t1, hBe, hlt⟩ := HS.out _ hB6
  go_wp2_with fail
  refine (CheckChart_any GC HC n n gc hc Pl M 0 _ hn hm (by omega) (by omega) hs6 HSP HSM hC0).mono ?_
  rintro e x7 ⟨rfl, hb7⟩
  have zz7 := hb7.size
  try simp at zz7
  have hc7 : Below x6.heap.size x6 x7 := (by (repeat (first | (with_reducible refine Below.drew ?_) | (with_reducible refine below_drewN ?_ _) | (with_reducible refine Below.alloc ?_ (by first | omega | (simp; done) | (simp; omega) | (simp at *; omega)) _) | (with_reducible refine Below.setCell ?_ (by first | omega | (simp; done) | (simp; omega) | (simp at *; omega)) _) | (with_reducible exact Below.refl _ _) | (with_reducible assumption) | (with_reducible refine Below.trans ?_ (Below.mono (by assumption) (by first | omega | (simp; done) | (simp; omega) | (simp at *; omega)))))))
  have hB7 : Below u.heap.size u x7 := hB6.trans (hc7.mono hB6.size)
  have zu7 := hB7.size
  replace HW := Lib.hid (HW.out.below hc7)
  clear HSP HSM
  clear hb7 hB6 zz6 zu6 hc6 c0 c1 t0 t1 hBe hlt
  obtain ⟨c0, c1, t0, t1, hBe, hlt⟩ := HS.out _ hB7
  go_wp2_with fail
  refine (bw_is (fr : Int) 0 ((n : Int) - 1) true _ hb0).mono ?_
  rintro e w' ⟨rfl, rfl⟩
  go_wp2_with fail
  refine (bw_is (tt : Int) 0 ((n : Int) - 1) true _ hb1).mono ?_
  rintro e w' ⟨rfl, rfl⟩
  go_wp2_with fail
  refine (Least_is A B n ca cb fr tt Pl M mi _ hn0 n12 (Lib.hid ⟨hn.out, HOK.out, HP.out _ (by (repeat (first | (with_reducible refine Below.drew ?_) | (with_reducible refine below_drewN ?_ _) | (with_reducible refine Below.alloc ?_ (by first | omega | (simp; done) | (simp; omega) | (simp at *; omega)) _) | (with_reducible refine Below.setCell ?_ (by first | omega | (simp; done) | (simp; omega) | (simp at *; omega)) _) | (with_reducible exact Below.refl _ _) | (with_reducible assumption) | (with_reducible refine Below.trans ?_ (Below.mono (by assumption) (by first | omega | (simp; done) | (simp; omega) | (simp at *; omega))))))), (HM.out _ (by (repeat (first | (with_reducible refine Below.drew ?_) | (with_reducible refine below_drewN ?_ _) | (with_reducible refine Below.alloc ?_ (by first | omega | (simp; done) | (simp; omega) | (simp at *; omega)) _) | (with_reducible refine Below.setCell ?_ (by first | omega | (simp; done) | (simp; omega) | (simp at *; omega)) _) | (with_reducible exact Below.refl _ _) | (with_reducible assumption) | (with_reducible refine Below.trans ?_ (Below.mono (by assumption) (by first | omega | (simp; done) | (simp; omega) | (simp at *; omega)))))))).mat⟩) hf ht hL).mono ?_
  rintro e x8 ⟨rfl, hb8⟩
  have zz8 := hb8.size
  try simp at zz8
  have hc8 : Below x7.heap.size x7 x8 := (by (repeat (first | (with_reducible refine Below.drew ?_) | (with_reducible refine below_drewN ?_ _) | (with_reducible refine Below.alloc ?_ (by first | omega | (simp; done) | (simp; omega) | (simp at *; omega)) _) | (with_reducible refine Below.setCell ?_ (by first | omega | (simp; done) | (simp; omega) | (simp at *; omega)) _) | (with_reducible exact Below.refl _ _) | (with_reducible assumption) | (with_reducible refine Below.trans ?_ (Below.mono (by assumption) (by first | omega | (simp; done) | (simp; omega) | (simp at *; omega)))))))
  have hB8 : Below u.heap.size u x8 := hB7.trans (hc8.mono hB7.size)
  have zu8 := hB8.size
  replace HW := Lib.hid (HW.out.below hc8)
  clear hb8 hB7 zz7 zu7 hc7 c0 c1 t0 t1 hBe hlt
  obtain ⟨c0, c1, t0, t1, hBe, hlt⟩ := HS.out _ hB8
  have m0' : ¬ mi < 0 := by omega
  obtain ⟨lW, HRW⟩ : gW < x8.heap.size ∧ Hid (RowsAt intV 1 x8 gW 0 P) := by
    rcases HW.out with h | ⟨b, o, e1, e2, e3⟩
    · exact absurd h hne.out
    · cases e1; exact ⟨e2, Lib.hid e3⟩
  have h0P : 0 < P.length := by rw [hll.out]; omega
  have hLP : ll - 1 < P.length := by rw [hll.out]; omega
  have d0 := HRW.out 0 h0P 0 (by omega)
  have d1 := HRW.out (ll - 1) hLP 0 (by omega)
  rw [show (intV P[0])[0]? = some (.int .i64 P[0]) from rfl, ← getD_at (d := 0) h0P, ← headI_getD, hWO.out.hd] at d0
  rw [show (intV P[ll - 1])[0]? = some (.int .i64 P[ll - 1]) from rfl, ← getD_at (d := 0) hLP, ← hll.out, ← lastI_getD, hWO.out.ls, hll.out] at d1
  obtain ⟨l9, h9⟩ : ∃ x, Hid (x = ll - 1) := ⟨_, Lib.hid rfl⟩
  rw [← h9.out] at d1
  simp only [Nat.mul_one, Nat.add_zero, Nat.zero_mul, Nat.zero_add] at d0 d1
  have w9 : IntKind.i64.wrap ((ll : Int) - 1) = (l9 : Int) := by have := h9.out; rw [IntWalk.i64_in _ (by omega)]; omega
  have j9 : (l9 : Int) < (ll : Int) := by have := h9.out; omega
  have j0 : (0 : Int) < (ll : Int) := by omega
  have jn : (ll : Int) ≤ (n : Int) := by omega
  have HX8 : Hid (∀ y, Below x8.heap.size x8 y → RowsAt intV 1 y gW 0 P ∧ gW < y.heap.size) := Lib.hid fun y hy => ⟨HRW.out.below hy lW, by have := hy.size; omega⟩
  go_upto_region 16 with (fail)
  refine wp_region_held_drew (S := (fun w' => w'.cell? ⟨w.heap.size, 0, none⟩ = some (.slice A n ca) ∧ w'.cell? ⟨w.heap.size, 1, none⟩ = some (.slice B n cb) ∧ w'.cell? ⟨w.heap.size + 1, 0, none⟩ = some (.int .i64 (fr : Int)) ∧ w'.cell? ⟨w.heap.size + 1, 1, none⟩ = some (.int .i64 (tt : Int)) ∧ w'.cell? ⟨gW, 0, none⟩ = some (.int .i64 (fr : Int)) ∧ w'.cell? ⟨gW, l9, none⟩ = some (.int .i64 (tt : Int)))) (by kernel_rfl) (by simp [go_sem, World.cell?_alloc_past, *]) (fun hHeld => ?_)
  refine tkH 0 ⟨some 88, _, _, _, _, _⟩ ?_ rfl ?_ (by assumption) ?_
  rotate_left
  · (intro w hSw; (try dsimp only at hSw); go_simp; all_goals with_reducible rfl)
  try simp only [Act.put, sA, sB, sC]
  refine tkH 1 ⟨some 89, _, _, _, _, _⟩ ?_ rfl ?_ (by assumption) ?_
  rotate_left
  · (intro w hSw; (try dsimp only at hSw); go_simp; all_goals with_reducible rfl)
  try simp only [Act.put, sA, sB, sC]
  refine tkH 2 ⟨some 90, _, _, _, _, _⟩ ?_ rfl ?_ (by assumption) ?_
  rotate_left
  · (intro w hSw; (try dsimp only at hSw); go_simp; all_goals with_reducible rfl)
  try simp only [Act.put, sA, sB, sC]
  refine tkH 3 ⟨some 91, _, _, _, _, _⟩ ?_ rfl ?_ (by assumption) ?_
  rotate_left
  · (intro w hSw; (try dsimp only at hSw); go_simp; all_goals with_reducible rfl)
  try simp only [Act.put, sA, sB, sC]
  refine tkH 4 ⟨some 92, _, _, _, _, _⟩ ?_ rfl ?_ (by assumption) ?_
  rotate_left
  · (intro w hSw; (try dsimp only at hSw); go_simp; all_goals with_reducible rfl)
  try simp only [Act.put, sA, sB, sC]
  refine tkH 5 ⟨some 93, _, _, _, _, _⟩ ?_ rfl ?_ (by assumption) ?_
  rotate_left
  · (intro w hSw; (try dsimp only at hSw); go_simp; all_goals with_reducible rfl)
  try simp only [Act.put, sA, sB, sC]
  refine tkH 6 ⟨some 94, _, _, _, _, _⟩ ?_ rfl ?_ (by assumption) ?_
  rotate_left
  · (intro w hSw; (try dsimp only at hSw); go_simp; all_goals with_reducible rfl)
  try simp only [Act.put, sA, sB, sC]
  refine tkH 7 ⟨some 95, _, _, _, _, _⟩ ?_ rfl ?_ (by assumption) ?_
  rotate_left
  · (intro w hSw; (try dsimp only at hSw); go_simp; all_goals with_reducible rfl)
  try simp only [Act.put, sA, sB, sC]
  refine tkH 8 ⟨some 96, _, _, _, _, _⟩ ?_ rfl ?_ (by assumption) ?_
  rotate_left
  · (intro w hSw; (try dsimp only at hSw); go_simp; all_goals with_reducible rfl)
  try simp only [Act.put, sA, sB, sC]
  refine tkH 9 ⟨some 97, _, _, _, _, _⟩ ?_ rfl ?_ (by assumption) ?_
  rotate_left
  · (intro w hSw; (try dsimp only at hSw); go_simp; all_goals with_reducible rfl)
  try simp only [Act.put, sA, sB, sC]
  refine tkH 10 ⟨some 98, _, _, _, _, _⟩ ?_ rfl ?_ (by assumption) ?_
  rotate_left
  · (intro w hSw; (try dsimp only at hSw); go_simp; all_goals with_reducible rfl)
  try simp only [Act.put, sA, sB, sC]
  refine tkH 11 ⟨some 99, _, _, _, _, _⟩ ?_ rfl ?_ (by assumption) ?_
  rotate_left
  · (intro w hSw; (try dsimp only at hSw); go_simp; all_goals with_reducible rfl)
  try simp only [Act.put, sA, sB, sC]
  refine tkH 12 ⟨some 100, _, _, _, _, _⟩ ?_ rfl ?_ (by assumption) ?_
  rotate_left
  · (intro w hSw; (try dsimp only at hSw); go_simp; all_goals with_reducible rfl)
  try simp only [Act.put, sA, sB, sC]
  refine tkH 13 ⟨some 101, _, _, _, _, _⟩ ?_ rfl ?_ (by assumption) ?_
  rotate_left
  · (intro w hSw; (try dsimp only at hSw); go_simp; all_goals with_reducible rfl)
  try simp only [Act.put, sA, sB, sC]
  refine tkH 14 ⟨some 102, _, _, _, _, _⟩ ?_ rfl ?_ (by assumption) ?_
  rotate_left
  · (intro w hSw; (try dsimp only at hSw); go_simp; all_goals with_reducible rfl)
  try simp only [Act.put, sA, sB, sC]
  refine tkH 15 ⟨some 103, _, _, _, _, _⟩ ?_ rfl ?_ (by assumption) ?_
  rotate_left
  · (intro w hSw; (try dsimp only at hSw); go_simp; all_goals with_reducible rfl)
  try simp only [Act.put, sA, sB, sC]
  refine tkH 16 ⟨some 104, _, _, _, _, _⟩ ?_ rfl ?_ (by assumption) ?_
  rotate_left
  · (intro w hSw; (try dsimp only at hSw); go_simp; all_goals with_reducible rfl)
  try simp only [Act.put, sA, sB, sC]
  refine tkH 17 ⟨some 105, _, _, _, _, _⟩ ?_ rfl ?_ (by assumption) ?_
  rotate_left
  · (intro w hSw; (try dsimp only at hSw); go_simp; all_goals with_reducible rfl)
  try simp only [Act.put, sA, sB, sC]
  refine tkH 18 ⟨some 106, _, _, _, _, _⟩ ?_ rfl ?_ (by assumption) ?_
  rotate_left
  · (intro w hSw; (try dsimp only at hSw); go_simp; all_goals with_reducible rfl)
  try simp only [Act.put, sA, sB, sC]
  refine tkH 19 ⟨some 107, _, _, _, _, _⟩ ?_ rfl ?_ (by assumption) ?_
  rotate_left
  · (intro w hSw; (try dsimp only at hSw); go_simp; all_goals with_reducible rfl)
  try simp only [Act.put, sA, sB, sC]
  refine tkH 20 ⟨some 108, _, _, _, _, _⟩ ?_ rfl ?_ (by assumption) ?_
  rotate_left
  · (intro w hSw; (try dsimp only at hSw); go_simp; all_goals with_reducible rfl)
  try simp only [Act.put, sA, sB, sC]
  refine tkH 21 ⟨some 109, _, _, _, _, _⟩ ?_ rfl ?_ (by assumption) ?_
  rotate_left
  · (intro w hSw; (try dsimp only at hSw); go_simp; all_goals with_reducible rfl)
  try simp only [Act.put, sA, sB, sC]
  refine tkH 22 ⟨some 110, _, _, _, _, _⟩ ?_ rfl ?_ (by assumption) ?_
  rotate_left
  · (intro w hSw; (try dsimp only at hSw); go_simp; all_goals with_reducible rfl)
  try simp only [Act.put, sA, sB, sC]
  refine tkH 23 ⟨some 111, _, _, _, _, _⟩ ?_ rfl ?_ (by assumption) ?_
  rotate_left
  · (intro w hSw; (try dsimp only at hSw); go_simp; all_goals with_reducible rfl)
  try simp only [Act.put, sA, sB, sC]
  refine tkH 24 ⟨some 112, _, _, _, _, _⟩ ?_ rfl ?_ (by assumption) ?_
  rotate_left
  · (intro w hSw; (try dsimp only at hSw); go_simp; all_goals with_reducible rfl)
  try simp only [Act.put, sA, sB, sC]
  refine tkH 25 ⟨some 113, _, _, _, _, _⟩ ?_ rfl ?_ (by assumption) ?_
  rotate_left
  · (intro w hSw; (try dsimp only at hSw); go_simp; all_goals with_reducible rfl)
  try simp only [Act.put, sA, sB, sC]
  refine tkH 26 ⟨some 114, _, _, _, _, _⟩ ?_ rfl ?_ (by assumption) ?_
  rotate_left
  · (intro w hSw; (try dsimp only at hSw); go_simp; all_goals with_reducible rfl)
  try simp only [Act.put, sA, sB, sC]
  refine tkH 27 ⟨some 115, _, _, _, _, _⟩ ?_ rfl ?_ (by assumption) ?_
  rotate_left
  · (intro w hSw; (try dsimp only at hSw); go_simp; all_goals with_reducible rfl)
  try simp only [Act.put, sA, sB, sC]
  refine tkH 28 ⟨some 116, _, _, _, _, _⟩ ?_ rfl ?_ (by assumption) ?_
  rotate_left
  · (intro w hSw; (try dsimp only at hSw); go_simp; all_goals with_reducible rfl)
  try simp only [Act.put, sA, sB, sC]
  refine tkH 29 ⟨some 117, _, _, _, _, _⟩ ?_ rfl ?_ (by assumption) ?_
  rotate_left
  · (intro w hSw; (try dsimp only at hSw); go_simp; all_goals with_reducible rfl)
  try simp only [Act.put, sA, sB, sC]
  refine tkH 30 ⟨some 118, _, _, _, _, _⟩ ?_ rfl ?_ (by assumption) ?_
  rotate_left
  · (intro w hSw; (try dsimp only at hSw); go_simp; all_goals with_reducible rfl)
  try simp only [Act.put, sA, sB, sC]
  refine tkH 31 ⟨some 119, _, _, _, _, _⟩ ?_ rfl ?_ (by assumption) ?_
  rotate_left
  · (intro w hSw; (try dsimp only at hSw); go_simp; all_goals with_reducible rfl)
  try simp only [Act.put, sA, sB, sC]
  refine tkH 32 ⟨some 120, _, _, _, _, _⟩ ?_ rfl ?_ (by assumption) ?_
  rotate_left
  · (intro w hSw; (try dsimp only at hSw); go_simp; all_goals with_reducible rfl)
  try simp only [Act.put, sA, sB, sC]
  refine tkH 33 ⟨some 121, _, _, _, _, _⟩ ?_ rfl ?_ (by assumption) ?_
  rotate_left
  · (intro w hSw; (try dsimp only at hSw); go_simp; all_goals with_reducible rfl)
  try simp only [Act.put, sA, sB, sC]
  refine tkH 34 ⟨some 122, _, _, _, _, _⟩ ?_ rfl ?_ (by assumption) ?_
  rotate_left
  · (intro w hSw; (try dsimp only at hSw); go_simp; all_goals with_reducible rfl)
  try simp only [Act.put, sA, sB, sC]
  refine tkH 35 ⟨some 123, _, _, _, _, _⟩ ?_ rfl ?_ (by assumption) ?_
  rotate_left
  · (intro w hSw; (try dsimp only at hSw); go_simp; all_goals with_reducible rfl)
  try simp only [Act.put, sA, sB, sC]
  refine tkH 36 ⟨some 124, _, _, _, _, _⟩ ?_ rfl ?_ (by assumption) ?_
  rotate_left
  · (intro w hSw; (try dsimp only at hSw); go_simp; all_goals with_reducible rfl)
  try simp only [Act.put, sA, sB, sC]
  refine tkH 37 ⟨some 125, _, _, _, _, _⟩ ?_ rfl ?_ (by assumption) ?_
  rotate_left
  · (intro w hSw; (try dsimp only at hSw); go_simp; all_goals with_reducible rfl)
  try simp only [Act.put, sA, sB, sC]
  refine tkH 38 ⟨some 126, _, _, _, _, _⟩ ?_ rfl ?_ (by assumption) ?_
  rotate_left
  · (intro w hSw; (try dsimp only at hSw); go_simp; all_goals with_reducible rfl)
  try simp only [Act.put, sA, sB, sC]
  refine tkH 39 ⟨some 127, _, _, _, _, _⟩ ?_ rfl ?_ (by assumption) ?_
  rotate_left
  · (intro w hSw; (try dsimp only at hSw); go_simp; all_goals with_reducible rfl)
  try simp only [Act.put, sA, sB, sC]
  refine tkH 40 ⟨some 128, _, _, _, _, _⟩ ?_ rfl ?_ (by assumption) ?_
  rotate_left
  · (intro w hSw; (try dsimp only at hSw); go_simp; all_goals with_reducible rfl)
  try simp only [Act.put, sA, sB, sC]
  refine tkH 41 ⟨some 129, _, _, _, _, _⟩ ?_ rfl ?_ (by assumption) ?_
  rotate_left
  · (intro w hSw; (try dsimp only at hSw); go_simp; all_goals with_reducible rfl)
  try simp only [Act.put, sA, sB, sC]
  refine tkH 43 ⟨some 131, _, _, _, _, _⟩ ?_ rfl ?_ (by assumption) ?_
  rotate_left
  · (intro w hSw; (try dsimp only at hSw); go_simp; all_goals with_reducible rfl)
  try simp only [Act.put, sA, sB, sC]
  refine wpAnyH_ready (rs := [42]) (by kernel_rfl) (by simp) ?_
  refine AllReadyH.cons rfl (fun K hK => ?_) AllReadyH.nil
  go_simp
  refine (MinutesOf_is A B n ca cb Pl M P gW 0 cW ll mi _ n12 (Lib.hid ⟨hn.out, HOK.out, HP.out _ (by (repeat (first | (with_reducible refine Below.drew ?_) | (with_reducible refine below_drewN ?_ _) | (with_reducible refine Below.alloc ?_ (by first | omega | (simp; done) | (simp; omega) | (simp at *; omega)) _) | (with_reducible refine Below.setCell ?_ (by first | omega | (simp; done) | (simp; omega) | (simp at *; omega)) _) | (with_reducible exact Below.refl _ _) | (with_reducible assumption) | (with_reducible refine Below.trans ?_ (Below.mono (by assumption) (by first | omega | (simp; done) | (simp; omega) | (simp at *; omega))))))), (HM.out _ (by (repeat (first | (with_reducible refine Below.drew ?_) | (with_reducible refine below_drewN ?_ _) | (with_reducible refine Below.alloc ?_ (by first | omega | (simp; done) | (simp; omega) | (simp at *; omega)) _) | (with_reducible refine Below.setCell ?_ (by first | omega | (simp; done) | (simp; omega) | (simp at *; omega)) _) | (with_reducible exact Below.refl _ _) | (with_reducible assumption) | (with_reducible refine Below.trans ?_ (Below.mono (by assumption) (by first | omega | (simp; done) | (simp; omega) | (simp at *; omega)))))))).mat⟩) (HX8.out _ (by (repeat (first | (with_reducible refine Below.drew ?_) | (with_reducible refine below_drewN ?_ _) | (with_reducible refine Below.alloc ?_ (by first | omega | (simp; done) | (simp; omega) | (simp at *; omega)) _) | (with_reducible refine Below.setCell ?_ (by first | omega | (simp; done) | (simp; omega) | (simp at *; omega)) _) | (with_reducible exact Below.refl _ _) | (with_reducible assumption) | (with_reducible refine Below.trans ?_ (Below.mono (by assumption) (by first | omega | (simp; done) | (simp; omega) | (simp at *; omega)))))))).2 (Lib.hid (HX8.out _ (by (repeat (first | (with_reducible refine Below.drew ?_) | (with_reducible refine below_drewN ?_ _) | (with_reducible refine Below.alloc ?_ (by first | omega | (simp; done) | (simp; omega) | (simp at *; omega)) _) | (with_reducible refine Below.setCell ?_ (by first | omega | (simp; done) | (simp; omega) | (simp at *; omega)) _) | (with_reducible exact Below.refl _ _) | (with_reducible assumption) | (with_reducible refine Below.trans ?_ (Below.mono (by assumption) (by first | omega | (simp; done) | (simp; omega) | (simp at *; omega)))))))).1) hll (by omega) hcW (Lib.hid hWO.out.bd) (Lib.hid hWO.out.ok) (Lib.hid hWO.out.nd) hmS).mono ?_
  rintro e y9 ⟨rfl, hb9⟩
  have hc9 : Below x8.heap.size x8 y9 := (by (repeat (first | (with_reducible refine Below.drew ?_) | (with_reducible refine below_drewN ?_ _) | (with_reducible refine Below.alloc ?_ (by first | omega | (simp; done) | (simp; omega) | (simp at *; omega)) _) | (with_reducible refine Below.setCell ?_ (by first | omega | (simp; done) | (simp; omega) | (simp at *; omega)) _) | (with_reducible exact Below.refl _ _) | (with_reducible assumption) | (with_reducible refine Below.trans ?_ (Below.mono (by assumption) (by first | omega | (simp; done) | (simp; omega) | (simp at *; omega)))))))
  have hB9 : Below u.heap.size u y9 := hB8.trans (hc9.mono hB8.size)
  have hr0 := (hc9.cell (p := ⟨gW, 0, none⟩) lW).trans d0
  have hr1 := (hc9.cell (p := ⟨gW, l9, none⟩) lW).trans d1
  clear hb9 d0 d1 hB8 zz8 zu8 hc8 c0 c1 t0 t1 hBe hlt
  obtain ⟨c0, c1, t0, t1, hBe, hlt⟩ := HS.out _ hB9
  go_wp2_with fail
  refine hK.out _ _ (by simp [go_sem, World.cell?_alloc_past, *]) (fun hHeld => ?_)
  clear hK K
  try simp only [Act.put, sA, sB, sC]
  refine tkH 44 ⟨some 132, _, _, _, _, _⟩ ?_ rfl ?_ (by assumption) ?_
  rotate_left
  · (intro w hSw; (try dsimp only at hSw); go_simp; all_goals with_reducible rfl)
  try simp only [Act.put, sA, sB, sC]
  refine tkH 45 ⟨some 133, _, _, _, _, _⟩ ?_ rfl ?_ (by assumption) ?_
  rotate_left
  · (intro w hSw; (try dsimp only at hSw); go_simp; all_goals with_reducible rfl)
  try simp only [Act.put, sA, sB, sC]
  refine tkH 46 ⟨some 4, _, _, _, _, _⟩ ?_ rfl ?_ (by assumption) ?_
  rotate_left
  · (intro w hSw; (try dsimp only at hSw); go_simp; all_goals with_reducible rfl)
  try simp only [Act.put, sA, sB, sC]
  refine wpAnyH_done (by kernel_rfl) ?_ _
  go_wp2
  go_ret
  exact ⟨rfl, hBe⟩
theorem siteCharts_any (Pl : List ByteArray) (A : Option Addr) (ca : Nat) (M : List (List Int)) (B : Option Addr) (cb : Nat) (a0 a1 : Int) (w : World)
    (_ : Pl.length ≤ 9223372036854775807) (CA0 : A = none → ca = 0) (HP : SlRows strV 1 w A Pl) (hsz : ∀ g ∈ Pl, (fun s => s.size ≤ maxLen) g) (hcap : Pl.length ≤ ca)
    (_ : M.length ≤ 9223372036854775807) (_ : B = none → cb = 0) (HM : SlSl (fun A0 L0 c0 => SlRows intV 1 w A0 L0 ∧ (∀ g ∈ L0, (fun _ => True) g) ∧ (A0 = none → c0 = 0) ∧ L0.length ≤ c0 ∧ c0 ≤ maxLen) w B M) :
    Calls Tryz.prog 7 #[.agg #[.slice A Pl.length ca, .slice B M.length cb], .agg #[.int .i64 a0, .int .i64 a1]] w fun e w' => e = .returned (.bool true) ∧ Below w.heap.size w w' := by
  have hz : Hid (∀ s ∈ Pl, s.size ≤ 9223372036854775807) := Lib.hid fun s hs => by have := hsz s hs; simp only at this; unfold maxLen at this; omega
  have hM1 := Lib.hid (slsl_mat HM).1
  have hM2 := Lib.hid (slsl_mat HM).2
  by_cases hF : flatB Pl M = true
  · obtain ⟨f1, f2, f3, f4⟩ := flatB_ok hF
    have hs6 : Hid (∀ s ∈ Pl, s.size ≤ 1000000) := Lib.hid fun s hs => by have := f3 s hs; omega
    have hrs : Hid (∀ k, k < M.length → (M.getD k []).length ≤ 1000000) := Lib.hid fun k hk => by
      rw [getD_at hk]; have := f4 _ (List.getElem_mem hk); omega
    have CA : Hid (A = none → Pl.length = 0 ∧ ca = 0) := Lib.hid fun h => ⟨by rw [h] at HP; rw [gr_none HP]; rfl, CA0 h⟩
    by_cases hC : chtE Pl M = 0
    · have HOK := chtE_ok hs6.out hC
      have hlen := HOK.len
      rw [hlen] at hrs f2 ⊢
      have hM3 : Hid (∀ k, k < Pl.length → (M.getD k []).length ≤ 9223372036854775807) := Lib.hid (by rw [← hlen]; exact hM2.out)
      by_cases h1 : 0 ≤ a0 ∧ a0 < (Pl.length : Int)
      · by_cases h2 : 0 ≤ a1 ∧ a1 < (Pl.length : Int)
        · have hn0 : 0 < Pl.length := by omega
          obtain ⟨fr, rfl⟩ : ∃ p : Nat, a0 = (p : Int) := ⟨a0.toNat, by omega⟩
          obtain ⟨tt, rfl⟩ : ∃ p : Nat, a1 = (p : Int) := ⟨a1.toNat, by omega⟩
          by_cases hp : ((gRnd (gZero Pl.length fr) M Pl.length Pl.length).getD tt default).ps = []
          · exact sc_none A B _ ca cb fr tt Pl M w (Lib.hid rfl) (Lib.hid hlen.symm) hz hM3 (Lib.hid HP) hM1 (Lib.hid hF) f1 f2 hcap hs6 hrs CA (Lib.hid hC) hn0 (by omega) (by omega) (Lib.hid hp)
          · exact sc_way A B _ ca cb fr tt Pl M w (Lib.hid rfl) (Lib.hid hlen.symm) hz hM3 (Lib.hid HP) hM1 (Lib.hid hF) f1 f2 hcap hs6 hrs CA (Lib.hid hC) hn0 (by omega) (by omega) _ _ _ (Lib.hid rfl) (Lib.hid rfl) (Lib.hid hp) (Lib.hid rfl)
        · exact sc_place1 A B _ ca cb a0 a1 Pl M w (Lib.hid rfl) (Lib.hid hlen.symm) hz hM3 (Lib.hid HP) hM1 (Lib.hid hF) f1 f2 hcap hs6 hrs CA (Lib.hid hC) (Lib.hid (inB_true h1.1 (by omega))) (Lib.hid (inB_not.2 (by omega)))
      · exact sc_place0 A B _ ca cb a0 a1 Pl M w (Lib.hid rfl) (Lib.hid hlen.symm) hz hM3 (Lib.hid HP) hM1 (Lib.hid hF) f1 f2 hcap hs6 hrs CA (Lib.hid hC) (Lib.hid (inB_not.2 (by omega)))
    · exact sc_chart A B _ _ ca cb a0 a1 Pl M w (Lib.hid rfl) (Lib.hid rfl) hz hM2 (Lib.hid HP) hM1 (Lib.hid hF) f1 f2 hcap hs6 hrs CA _ (Lib.hid rfl) (by simpa using hC)
  · exact sc_flat A B _ _ ca cb a0 a1 Pl M w (Lib.hid rfl) (Lib.hid rfl) hz hM2 (Lib.hid HP) hM1 (Lib.hid (by simpa using hF))
end Go.Proofs.YtojaompfffpofaaGreat
