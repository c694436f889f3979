import Derived.Test.YtojaompfffpofaaGreatZUSRefSw
import Derived.Test.YtojaompfffpofaaGreatZUSHigh3
import Derived.Test.YtojaompfffpofaaGreatZURootB
import Derived.Test.YtojaompfffpofaaGreatZUSSlk
import Derived.Test.YtojaompfffpofaaGreatZUSAwk
import Derived.Outline
namespace Go.Proofs.YtojaompfffpofaaGreat
open Go.ChangeShapes Go.WideShapes Go.ChangeAt Go.RowKit
set_option linter.unusedVariables false
set_option linter.unusedSimpArgs false
attribute [local go_sem ↓] Go.wp_at_zero Go.wp_at_succ
set_option maxRecDepth 100000 in
set_option maxHeartbeats 1000000 in
theorem slw_few (m l a b : Int) (s : Bool) (A : Option Addr) (n cap : Nat) (w : World) (hl : n ≤ 9223372036854775807) (hF : Hid (fewB n = false)) :
    Calls Tryz.prog 3 #[.agg #[.int .i64 m, .slice A n cap], .agg #[.int .i64 l, .int .i64 a, .int .i64 b, .bool s]] w fun e w' => e = .returned (.bool true) ∧ Below w.heap.size w w' := by
  go_enter Tryz.func3, Tryz.ntmps3
  go_upto_region 1 with (fail)
  refine wp_world (AskS m A n cap l a b s w) ⟨by simp [go_sem, World.cell?_alloc_past], by simp [go_sem, World.cell?_alloc_past], by simp [go_sem, World.cell?_alloc_past], by simp [go_sem, World.cell?_alloc_past], by simp [go_sem, World.cell?_alloc_past], by simp [go_sem, World.cell?_alloc_past], (by (repeat (first | (with_reducible refine Below.drew ?_) | (with_reducible refine below_drewN ?_ _) | (with_reducible refine Below.alloc ?_ (by first | omega | (simp; done) | (simp; omega) | (simp at *; omega)) _) | (with_reducible refine Below.setCell ?_ (by first | omega | (simp; done) | (simp; omega) | (simp at *; omega)) _) | (with_reducible exact Below.refl _ _) | (with_reducible assumption) | (with_reducible refine Below.trans ?_ (Below.mono (by assumption) (by first | omega | (simp; done) | (simp; omega) | (simp at *; omega))))))), by simp⟩ (fun u hu => ?_)
  have HU := Lib.hid hu
  have HS : Hid (∀ x, Below u.heap.size u x → AskS m A n cap l a b s w x) := Lib.hid fun x hx => HU.out.below hx
  clear hu
  go_wp2_with fail
  refine (awake_any _).mono ?_
  rintro e x1 ⟨rfl, hb1⟩
  have zz1 := hb1.size
  try simp at zz1
  have hB1 : Below u.heap.size u x1 := (by (repeat (first | (with_reducible refine Below.drew ?_) | (with_reducible refine below_drewN ?_ _) | (with_reducible refine Below.alloc ?_ (by first | omega | (simp; done) | (simp; omega) | (simp at *; omega)) _) | (with_reducible refine Below.setCell ?_ (by first | omega | (simp; done) | (simp; omega) | (simp at *; omega)) _) | (with_reducible exact Below.refl _ _) | (with_reducible assumption) | (with_reducible refine Below.trans ?_ (Below.mono (by assumption) (by first | omega | (simp; done) | (simp; omega) | (simp at *; omega)))))))
  have zu1 := hB1.size
  clear hb1 
  obtain ⟨t0, t1, c0, c1, c2, c3, hBe, hlt⟩ := HS.out _ hB1
  go_wp2_with fail
  refine (few_is m A n cap false _ (by omega) hF).mono ?_
  rintro e x2 ⟨rfl, hb2⟩
  have zz2 := hb2.size
  try simp at zz2
  have hB2 : Below u.heap.size u x2 := (by (repeat (first | (with_reducible refine Below.drew ?_) | (with_reducible refine below_drewN ?_ _) | (with_reducible refine Below.alloc ?_ (by first | omega | (simp; done) | (simp; omega) | (simp at *; omega)) _) | (with_reducible refine Below.setCell ?_ (by first | omega | (simp; done) | (simp; omega) | (simp at *; omega)) _) | (with_reducible exact Below.refl _ _) | (with_reducible assumption) | (with_reducible refine Below.trans ?_ (Below.mono (by assumption) (by first | omega | (simp; done) | (simp; omega) | (simp at *; omega)))))))
  have zu2 := hB2.size
  clear hb2 hB1 zz1 zu1 t0 t1 c0 c1 c2 c3 hBe hlt
  obtain ⟨t0, t1, c0, c1, c2, c3, hBe, hlt⟩ := HS.out _ hB2
  go_wp2
  go_ret
  exact ⟨rfl, hBe⟩
set_option maxRecDepth 100000 in
set_option maxHeartbeats 4000000 in
theorem slw_brief (m l a b : Int) (s : Bool) (L : List Wv) (A : Option Addr) (n cap : Nat) (w : World) (hn : Hid (n = L.length)) (hl : n ≤ 12) (hF : Hid (fewB n = true)) (HR : Hid (∀ w' : World, Below w.heap.size w w' → SlRows wvV 3 w' A L)) (CA : Hid (A = none → n = 0 ∧ cap = 0)) (P : Int) (hP : Hid (spnE a b = P)) (hBr : Hid ((P != 0 || decide (b - a < 200)) = false)) :
    Calls Tryz.prog 3 #[.agg #[.int .i64 m, .slice A n cap], .agg #[.int .i64 l, .int .i64 a, .int .i64 b, .bool s]] w fun e w' => e = .returned (.bool true) ∧ Below w.heap.size w w' := by
  go_enter Tryz.func3, Tryz.ntmps3
  go_upto_region 1 with (fail)
  refine wp_world (AskS m A n cap l a b s w) ⟨by simp [go_sem, World.cell?_alloc_past], by simp [go_sem, World.cell?_alloc_past], by simp [go_sem, World.cell?_alloc_past], by simp [go_sem, World.cell?_alloc_past], by simp [go_sem, World.cell?_alloc_past], by simp [go_sem, World.cell?_alloc_past], (by (repeat (first | (with_reducible refine Below.drew ?_) | (with_reducible refine below_drewN ?_ _) | (with_reducible refine Below.alloc ?_ (by first | omega | (simp; done) | (simp; omega) | (simp at *; omega)) _) | (with_reducible refine Below.setCell ?_ (by first | omega | (simp; done) | (simp; omega) | (simp at *; omega)) _) | (with_reducible exact Below.refl _ _) | (with_reducible assumption) | (with_reducible refine Below.trans ?_ (Below.mono (by assumption) (by first | omega | (simp; done) | (simp; omega) | (simp at *; omega))))))), by simp⟩ (fun u hu => ?_)
  have HU := Lib.hid hu
  have HS : Hid (∀ x, Below u.heap.size u x → AskS m A n cap l a b s w x) := Lib.hid fun x hx => HU.out.below hx
  have HA : Hid (∀ x, Below u.heap.size u x → SlRows wvV 3 x A L) := Lib.hid fun x hx => HR.out _ (HU.out.below hx).be
  clear hu
  go_wp2_with fail
  refine (awake_any _).mono ?_
  rintro e x1 ⟨rfl, hb1⟩
  have zz1 := hb1.size
  try simp at zz1
  have hB1 : Below u.heap.size u x1 := (by (repeat (first | (with_reducible refine Below.drew ?_) | (with_reducible refine below_drewN ?_ _) | (with_reducible refine Below.alloc ?_ (by first | omega | (simp; done) | (simp; omega) | (simp at *; omega)) _) | (with_reducible refine Below.setCell ?_ (by first | omega | (simp; done) | (simp; omega) | (simp at *; omega)) _) | (with_reducible exact Below.refl _ _) | (with_reducible assumption) | (with_reducible refine Below.trans ?_ (Below.mono (by assumption) (by first | omega | (simp; done) | (simp; omega) | (simp at *; omega)))))))
  have zu1 := hB1.size
  clear hb1 
  obtain ⟨t0, t1, c0, c1, c2, c3, hBe, hlt⟩ := HS.out _ hB1
  go_wp2_with fail
  refine (few_is m A n cap true _ (by omega) hF).mono ?_
  rintro e x2 ⟨rfl, hb2⟩
  have zz2 := hb2.size
  try simp at zz2
  have hB2 : Below u.heap.size u x2 := (by (repeat (first | (with_reducible refine Below.drew ?_) | (with_reducible refine below_drewN ?_ _) | (with_reducible refine Below.alloc ?_ (by first | omega | (simp; done) | (simp; omega) | (simp at *; omega)) _) | (with_reducible refine Below.setCell ?_ (by first | omega | (simp; done) | (simp; omega) | (simp at *; omega)) _) | (with_reducible exact Below.refl _ _) | (with_reducible assumption) | (with_reducible refine Below.trans ?_ (Below.mono (by assumption) (by first | omega | (simp; done) | (simp; omega) | (simp at *; omega)))))))
  have zu2 := hB2.size
  clear hb2 hB1 zz1 zu1 t0 t1 c0 c1 c2 c3 hBe hlt
  obtain ⟨t0, t1, c0, c1, c2, c3, hBe, hlt⟩ := HS.out _ hB2
  go_wp2_with fail
  refine (brief_is a b P false _ hP hBr).mono ?_
  rintro e x3 ⟨rfl, hb3⟩
  have zz3 := hb3.size
  try simp at zz3
  have hB3 : Below u.heap.size u x3 := (by (repeat (first | (with_reducible refine Below.drew ?_) | (with_reducible refine below_drewN ?_ _) | (with_reducible refine Below.alloc ?_ (by first | omega | (simp; done) | (simp; omega) | (simp at *; omega)) _) | (with_reducible refine Below.setCell ?_ (by first | omega | (simp; done) | (simp; omega) | (simp at *; omega)) _) | (with_reducible exact Below.refl _ _) | (with_reducible assumption) | (with_reducible refine Below.trans ?_ (Below.mono (by assumption) (by first | omega | (simp; done) | (simp; omega) | (simp at *; omega)))))))
  have zu3 := hB3.size
  clear hb3 hB2 zz2 zu2 t0 t1 c0 c1 c2 c3 hBe hlt
  obtain ⟨t0, t1, c0, c1, c2, c3, hBe, hlt⟩ := HS.out _ hB3
  go_wp2
  go_ret
  exact ⟨rfl, hBe⟩
set_option maxRecDepth 100000 in
set_option maxHeartbeats 4000000 in
theorem slw_t (m l a b : Int) (s : Bool) (L : List Wv) (A : Option Addr) (n cap : Nat) (w : World) (hn : Hid (n = L.length)) (hl : n ≤ 12) (hF : Hid (fewB n = true)) (HR : Hid (∀ w' : World, Below w.heap.size w w' → SlRows wvV 3 w' A L)) (CA : Hid (A = none → n = 0 ∧ cap = 0)) (F P : Int) (hT : Hid (tidE m L = F)) (hz : (F != 0) = true) (hP : Hid (spnE a b = P)) (hBr : Hid ((P != 0 || decide (b - a < 200)) = true)) :
    Calls Tryz.prog 3 #[.agg #[.int .i64 m, .slice A n cap], .agg #[.int .i64 l, .int .i64 a, .int .i64 b, .bool s]] w fun e w' => e = .returned (.bool true) ∧ Below w.heap.size w w' := by
  have hAE : Hid (askE m L l a b = F) := Lib.hid (by unfold askE firE; rw [hT.out, if_neg (by simpa using hz)])
  have hHE : Hid (firE [tidE m L, spnE a b] = F) := Lib.hid (by unfold firE; rw [hT.out, if_neg (by simpa using hz)])
  have hzE := hz
  have hzH := hz
  have hz2 : (F == 0) = false := by simpa [bne] using hz
  go_enter Tryz.func3, Tryz.ntmps3
  go_upto_region 1 with (fail)
  refine wp_world (AskS m A n cap l a b s w) ⟨by simp [go_sem, World.cell?_alloc_past], by simp [go_sem, World.cell?_alloc_past], by simp [go_sem, World.cell?_alloc_past], by simp [go_sem, World.cell?_alloc_past], by simp [go_sem, World.cell?_alloc_past], by simp [go_sem, World.cell?_alloc_past], (by (repeat (first | (with_reducible refine Below.drew ?_) | (with_reducible refine below_drewN ?_ _) | (with_reducible refine Below.alloc ?_ (by first | omega | (simp; done) | (simp; omega) | (simp at *; omega)) _) | (with_reducible refine Below.setCell ?_ (by first | omega | (simp; done) | (simp; omega) | (simp at *; omega)) _) | (with_reducible exact Below.refl _ _) | (with_reducible assumption) | (with_reducible refine Below.trans ?_ (Below.mono (by assumption) (by first | omega | (simp; done) | (simp; omega) | (simp at *; omega))))))), by simp⟩ (fun u hu => ?_)
  have HU := Lib.hid hu
  have HS : Hid (∀ x, Below u.heap.size u x → AskS m A n cap l a b s w x) := Lib.hid fun x hx => HU.out.below hx
  have HA : Hid (∀ x, Below u.heap.size u x → SlRows wvV 3 x A L) := Lib.hid fun x hx => HR.out _ (HU.out.below hx).be
  clear hu
  go_wp2_with fail
  refine (awake_any _).mono ?_
  rintro e x1 ⟨rfl, hb1⟩
  have zz1 := hb1.size
  try simp at zz1
  have hB1 : Below u.heap.size u x1 := (by (repeat (first | (with_reducible refine Below.drew ?_) | (with_reducible refine below_drewN ?_ _) | (with_reducible refine Below.alloc ?_ (by first | omega | (simp; done) | (simp; omega) | (simp at *; omega)) _) | (with_reducible refine Below.setCell ?_ (by first | omega | (simp; done) | (simp; omega) | (simp at *; omega)) _) | (with_reducible exact Below.refl _ _) | (with_reducible assumption) | (with_reducible refine Below.trans ?_ (Below.mono (by assumption) (by first | omega | (simp; done) | (simp; omega) | (simp at *; omega)))))))
  have zu1 := hB1.size
  clear hb1 
  obtain ⟨t0, t1, c0, c1, c2, c3, hBe, hlt⟩ := HS.out _ hB1
  go_wp2_with fail
  refine (few_is m A n cap true _ (by omega) hF).mono ?_
  rintro e x2 ⟨rfl, hb2⟩
  have zz2 := hb2.size
  try simp at zz2
  have hB2 : Below u.heap.size u x2 := (by (repeat (first | (with_reducible refine Below.drew ?_) | (with_reducible refine below_drewN ?_ _) | (with_reducible refine Below.alloc ?_ (by first | omega | (simp; done) | (simp; omega) | (simp at *; omega)) _) | (with_reducible refine Below.setCell ?_ (by first | omega | (simp; done) | (simp; omega) | (simp at *; omega)) _) | (with_reducible exact Below.refl _ _) | (with_reducible assumption) | (with_reducible refine Below.trans ?_ (Below.mono (by assumption) (by first | omega | (simp; done) | (simp; omega) | (simp at *; omega)))))))
  have zu2 := hB2.size
  clear hb2 hB1 zz1 zu1 t0 t1 c0 c1 c2 c3 hBe hlt
  obtain ⟨t0, t1, c0, c1, c2, c3, hBe, hlt⟩ := HS.out _ hB2
  go_wp2_with fail
  refine (brief_is a b P true _ hP hBr).mono ?_
  rintro e x3 ⟨rfl, hb3⟩
  have zz3 := hb3.size
  try simp at zz3
  have hB3 : Below u.heap.size u x3 := (by (repeat (first | (with_reducible refine Below.drew ?_) | (with_reducible refine below_drewN ?_ _) | (with_reducible refine Below.alloc ?_ (by first | omega | (simp; done) | (simp; omega) | (simp at *; omega)) _) | (with_reducible refine Below.setCell ?_ (by first | omega | (simp; done) | (simp; omega) | (simp at *; omega)) _) | (with_reducible exact Below.refl _ _) | (with_reducible assumption) | (with_reducible refine Below.trans ?_ (Below.mono (by assumption) (by first | omega | (simp; done) | (simp; omega) | (simp at *; omega)))))))
  have zu3 := hB3.size
  clear hb3 hB2 zz2 zu2 t0 t1 c0 c1 c2 c3 hBe hlt
  obtain ⟨t0, t1, c0, c1, c2, c3, hBe, hlt⟩ := HS.out _ hB3
  go_upto_region 5 with (fail)
  refine wp_region_held_drew (S := (fun w' => w'.cell? ⟨w.heap.size, 0, none⟩ = some (.int .i64 m) ∧ w'.cell? ⟨w.heap.size, 1, none⟩ = some (.slice A n cap) ∧ w'.cell? ⟨w.heap.size + 1, 0, none⟩ = some (.int .i64 l) ∧ w'.cell? ⟨w.heap.size + 1, 1, none⟩ = some (.int .i64 a) ∧ w'.cell? ⟨w.heap.size + 1, 2, none⟩ = some (.int .i64 b) ∧ w'.cell? ⟨w.heap.size + 1, 3, none⟩ = some (.bool s))) (by kernel_rfl) (by simp [go_sem, World.cell?_alloc_past, *]) (fun hHeld => ?_)
  refine tkH 0 ⟨some 24, _, _, _, _, _⟩ ?_ rfl ?_ (by assumption) ?_
  rotate_left
  · (intro w hSw; (try dsimp only at hSw); go_simp; all_goals with_reducible rfl)
  try simp only [Act.put, sA, sB, sC]
  refine tkH 2 ⟨some 26, _, _, _, _, _⟩ ?_ rfl ?_ (by assumption) ?_
  rotate_left
  · (intro w hSw; (try dsimp only at hSw); go_simp; all_goals with_reducible rfl)
  try simp only [Act.put, sA, sB, sC]
  refine wpAnyH_ready (rs := [1]) (by kernel_rfl) (by simp) ?_
  refine AllReadyH.cons rfl (fun K hK => ?_) AllReadyH.nil
  go_simp
  refine (own_is m L A n cap _ hn (by omega) (Lib.hid (HA.out _ (by (repeat (first | (with_reducible refine Below.drew ?_) | (with_reducible refine below_drewN ?_ _) | (with_reducible refine Below.alloc ?_ (by first | omega | (simp; done) | (simp; omega) | (simp at *; omega)) _) | (with_reducible refine Below.setCell ?_ (by first | omega | (simp; done) | (simp; omega) | (simp at *; omega)) _) | (with_reducible exact Below.refl _ _) | (with_reducible assumption) | (with_reducible refine Below.trans ?_ (Below.mono (by assumption) (by first | omega | (simp; done) | (simp; omega) | (simp at *; omega))))))))) CA).mono ?_
  rintro e x4 ⟨G5, cg5, rfl, hG5, hb4⟩
  have zz4 := hb4.size
  try simp at zz4
  have hB4 : Below u.heap.size u x4 := (by (repeat (first | (with_reducible refine Below.drew ?_) | (with_reducible refine below_drewN ?_ _) | (with_reducible refine Below.alloc ?_ (by first | omega | (simp; done) | (simp; omega) | (simp at *; omega)) _) | (with_reducible refine Below.setCell ?_ (by first | omega | (simp; done) | (simp; omega) | (simp at *; omega)) _) | (with_reducible exact Below.refl _ _) | (with_reducible assumption) | (with_reducible refine Below.trans ?_ (Below.mono (by assumption) (by first | omega | (simp; done) | (simp; omega) | (simp at *; omega)))))))
  have zu4 := hB4.size
  have HG5 := Lib.hid hG5
  clear hG5
  clear hb4 hB3 zz3 zu3 t0 t1 c0 c1 c2 c3 hBe hlt
  obtain ⟨t0, t1, c0, c1, c2, c3, hBe, hlt⟩ := HS.out _ hB4
  go_wp2_with fail
  refine hK.out _ _ (by simp [go_sem, World.cell?_alloc_past, *]) (fun hHeld => ?_)
  clear hK K
  try simp only [Act.put, sA, sB, sC]
  refine wpAnyH_ready (rs := [3]) (by kernel_rfl) (by simp) ?_
  refine AllReadyH.cons rfl (fun K hK => ?_) AllReadyH.nil
  go_simp
  refine (SlackWindows_bad m L G5 cg5 n l a b F s _ hn (by omega) HG5 hAE hzE).mono ?_
  rintro e x5 ⟨rfl, hb5⟩
  have zz5 := hb5.size
  try simp at zz5
  have hB5 : Below u.heap.size u x5 := (by (repeat (first | (with_reducible refine Below.drew ?_) | (with_reducible refine below_drewN ?_ _) | (with_reducible refine Below.alloc ?_ (by first | omega | (simp; done) | (simp; omega) | (simp at *; omega)) _) | (with_reducible refine Below.setCell ?_ (by first | omega | (simp; done) | (simp; omega) | (simp at *; omega)) _) | (with_reducible exact Below.refl _ _) | (with_reducible assumption) | (with_reducible refine Below.trans ?_ (Below.mono (by assumption) (by first | omega | (simp; done) | (simp; omega) | (simp at *; omega)))))))
  have zu5 := hB5.size
  clear hb5 hB4 zz4 zu4 t0 t1 c0 c1 c2 c3 hBe hlt
  obtain ⟨t0, t1, c0, c1, c2, c3, hBe, hlt⟩ := HS.out _ hB5
  go_wp2_with fail
  refine hK.out _ _ (by simp [go_sem, World.cell?_alloc_past, *]) (fun hHeld => ?_)
  clear hK K
  try simp only [Act.put, sA, sB, sC]
  refine tkH 4 ⟨some 23, _, _, _, _, _⟩ ?_ rfl ?_ (by assumption) ?_
  rotate_left
  · (intro w hSw; (try dsimp only at hSw); go_simp; all_goals with_reducible rfl)
  try simp only [Act.put, sA, sB, sC]
  refine tkH 5 ⟨some 28, _, _, _, _, _⟩ ?_ rfl ?_ (by assumption) ?_
  rotate_left
  · (intro w hSw; (try dsimp only at hSw); go_simp; all_goals with_reducible rfl)
  try simp only [Act.put, sA, sB, sC]
  refine tkH 6 ⟨some 29, _, _, _, _, _⟩ ?_ rfl ?_ (by assumption) ?_
  rotate_left
  · (intro w hSw; (try dsimp only at hSw); go_simp; all_goals with_reducible rfl)
  try simp only [Act.put, sA, sB, sC]
  refine tkH 7 ⟨some 5, _, _, _, _, _⟩ ?_ rfl ?_ (by assumption) ?_
  rotate_left
  · (intro w hSw; (try dsimp only at hSw); go_simp; all_goals with_reducible rfl)
  try simp only [Act.put, sA, sB, sC]
  refine tkH 8 ⟨some 6, _, _, _, _, _⟩ ?_ rfl ?_ (by assumption) ?_
  rotate_left
  · (intro w hSw; (try dsimp only at hSw); go_simp; all_goals with_reducible rfl)
  try simp only [Act.put, sA, sB, sC]
  refine wpAnyH_done (by kernel_rfl) ?_ _
  go_upto_region 6 with (fail)
  refine wp_region_held_drew (S := (fun w' => w'.cell? ⟨w.heap.size, 0, none⟩ = some (.int .i64 m) ∧ w'.cell? ⟨w.heap.size, 1, none⟩ = some (.slice A n cap) ∧ w'.cell? ⟨w.heap.size + 1, 0, none⟩ = some (.int .i64 l) ∧ w'.cell? ⟨w.heap.size + 1, 1, none⟩ = some (.int .i64 a) ∧ w'.cell? ⟨w.heap.size + 1, 2, none⟩ = some (.int .i64 b) ∧ w'.cell? ⟨w.heap.size + 1, 3, none⟩ = some (.bool s))) (by kernel_rfl) (by simp [go_sem, World.cell?_alloc_past, *]) (fun hHeld => ?_)
  refine tkH 0 ⟨some 31, _, _, _, _, _⟩ ?_ rfl ?_ (by assumption) ?_
  rotate_left
  · (intro w hSw; (try dsimp only at hSw); go_simp; all_goals with_reducible rfl)
  try simp only [Act.put, sA, sB, sC]
  refine tkH 2 ⟨some 33, _, _, _, _, _⟩ ?_ rfl ?_ (by assumption) ?_
  rotate_left
  · (intro w hSw; (try dsimp only at hSw); go_simp; all_goals with_reducible rfl)
  try simp only [Act.put, sA, sB, sC]
  refine tkH 3 ⟨some 34, _, _, _, _, _⟩ ?_ rfl ?_ (by assumption) ?_
  rotate_left
  · (intro w hSw; (try dsimp only at hSw); go_simp; all_goals with_reducible rfl)
  try simp only [Act.put, sA, sB, sC]
  refine wpAnyH_ready (rs := [1]) (by kernel_rfl) (by simp) ?_
  refine AllReadyH.cons rfl (fun K hK => ?_) AllReadyH.nil
  go_simp
  refine (own_is m L A n cap _ hn (by omega) (Lib.hid (HA.out _ (by (repeat (first | (with_reducible refine Below.drew ?_) | (with_reducible refine below_drewN ?_ _) | (with_reducible refine Below.alloc ?_ (by first | omega | (simp; done) | (simp; omega) | (simp at *; omega)) _) | (with_reducible refine Below.setCell ?_ (by first | omega | (simp; done) | (simp; omega) | (simp at *; omega)) _) | (with_reducible exact Below.refl _ _) | (with_reducible assumption) | (with_reducible refine Below.trans ?_ (Below.mono (by assumption) (by first | omega | (simp; done) | (simp; omega) | (simp at *; omega))))))))) CA).mono ?_
  rintro e x6 ⟨G6, cg6, rfl, hG6, hb6⟩
  have zz6 := hb6.size
  try simp at zz6
  have hB6 : Below u.heap.size u x6 := (by (repeat (first | (with_reducible refine Below.drew ?_) | (with_reducible refine below_drewN ?_ _) | (with_reducible refine Below.alloc ?_ (by first | omega | (simp; done) | (simp; omega) | (simp at *; omega)) _) | (with_reducible refine Below.setCell ?_ (by first | omega | (simp; done) | (simp; omega) | (simp at *; omega)) _) | (with_reducible exact Below.refl _ _) | (with_reducible assumption) | (with_reducible refine Below.trans ?_ (Below.mono (by assumption) (by first | omega | (simp; done) | (simp; omega) | (simp at *; omega)))))))
  have zu6 := hB6.size
  have HG6 := Lib.hid hG6
  clear hG6
  clear hb6 hB5 zz5 zu5 t0 t1 c0 c1 c2 c3 hBe hlt
  obtain ⟨t0, t1, c0, c1, c2, c3, hBe, hlt⟩ := HS.out _ hB6
  go_wp2_with fail
  refine hK.out _ _ (by simp [go_sem, World.cell?_alloc_past, *]) (fun hHeld => ?_)
  clear hK K
  try simp only [Act.put, sA, sB, sC]
  refine wpAnyH_ready (rs := [4]) (by kernel_rfl) (by simp) ?_
  refine AllReadyH.cons rfl (fun K hK => ?_) AllReadyH.nil
  go_simp
  refine (Highest_bad m L G6 cg6 n a b F _ hn (by omega) HG6 hHE hzH).mono ?_
  rintro e x7 ⟨rfl, hb7⟩
  have zz7 := hb7.size
  try simp at zz7
  have hB7 : Below u.heap.size u x7 := (by (repeat (first | (with_reducible refine Below.drew ?_) | (with_reducible refine below_drewN ?_ _) | (with_reducible refine Below.alloc ?_ (by first | omega | (simp; done) | (simp; omega) | (simp at *; omega)) _) | (with_reducible refine Below.setCell ?_ (by first | omega | (simp; done) | (simp; omega) | (simp at *; omega)) _) | (with_reducible exact Below.refl _ _) | (with_reducible assumption) | (with_reducible refine Below.trans ?_ (Below.mono (by assumption) (by first | omega | (simp; done) | (simp; omega) | (simp at *; omega)))))))
  have zu7 := hB7.size
  clear hb7 hB6 zz6 zu6 t0 t1 c0 c1 c2 c3 hBe hlt
  obtain ⟨t0, t1, c0, c1, c2, c3, hBe, hlt⟩ := HS.out _ hB7
  go_wp2_with fail
  refine hK.out _ _ (by simp [go_sem, World.cell?_alloc_past, *]) (fun hHeld => ?_)
  clear hK K
  try simp only [Act.put, sA, sB, sC]
  refine tkH 5 ⟨some 30, _, _, _, _, _⟩ ?_ rfl ?_ (by assumption) ?_
  rotate_left
  · (intro w hSw; (try dsimp only at hSw); go_simp; all_goals with_reducible rfl)
  try simp only [Act.put, sA, sB, sC]
  refine tkH 6 ⟨some 36, _, _, _, _, _⟩ ?_ rfl ?_ (by assumption) ?_
  rotate_left
  · (intro w hSw; (try dsimp only at hSw); go_simp; all_goals with_reducible rfl)
  try simp only [Act.put, sA, sB, sC]
  refine tkH 7 ⟨some 37, _, _, _, _, _⟩ ?_ rfl ?_ (by assumption) ?_
  rotate_left
  · (intro w hSw; (try dsimp only at hSw); go_simp; all_goals with_reducible rfl)
  try simp only [Act.put, sA, sB, sC]
  refine tkH 8 ⟨some 7, _, _, _, _, _⟩ ?_ rfl ?_ (by assumption) ?_
  rotate_left
  · (intro w hSw; (try dsimp only at hSw); go_simp; all_goals with_reducible rfl)
  try simp only [Act.put, sA, sB, sC]
  refine tkH 9 ⟨some 8, _, _, _, _, _⟩ ?_ rfl ?_ (by assumption) ?_
  rotate_left
  · (intro w hSw; (try dsimp only at hSw); go_simp; all_goals with_reducible rfl)
  try simp only [Act.put, sA, sB, sC]
  refine wpAnyH_done (by kernel_rfl) ?_ _
  go_wp2_with fail
  refine (refTide_is m L A cap n F _ hn (by omega) (Lib.hid (HA.out _ (by (repeat (first | (with_reducible refine Below.drew ?_) | (with_reducible refine below_drewN ?_ _) | (with_reducible refine Below.alloc ?_ (by first | omega | (simp; done) | (simp; omega) | (simp at *; omega)) _) | (with_reducible refine Below.setCell ?_ (by first | omega | (simp; done) | (simp; omega) | (simp at *; omega)) _) | (with_reducible exact Below.refl _ _) | (with_reducible assumption) | (with_reducible refine Below.trans ?_ (Below.mono (by assumption) (by first | omega | (simp; done) | (simp; omega) | (simp at *; omega))))))))) hT).mono ?_
  rintro e x8 ⟨rfl, hb8⟩
  have zz8 := hb8.size
  try simp at zz8
  have hB8 : Below u.heap.size u x8 := (by (repeat (first | (with_reducible refine Below.drew ?_) | (with_reducible refine below_drewN ?_ _) | (with_reducible refine Below.alloc ?_ (by first | omega | (simp; done) | (simp; omega) | (simp at *; omega)) _) | (with_reducible refine Below.setCell ?_ (by first | omega | (simp; done) | (simp; omega) | (simp at *; omega)) _) | (with_reducible exact Below.refl _ _) | (with_reducible assumption) | (with_reducible refine Below.trans ?_ (Below.mono (by assumption) (by first | omega | (simp; done) | (simp; omega) | (simp at *; omega)))))))
  have zu8 := hB8.size
  clear hb8 hB7 zz7 zu7 t0 t1 c0 c1 c2 c3 hBe hlt
  obtain ⟨t0, t1, c0, c1, c2, c3, hBe, hlt⟩ := HS.out _ hB8
  go_wp2_with fail
  refine (askErr_is m L A cap n l a b F s _ hn (by omega) (Lib.hid (HA.out _ (by (repeat (first | (with_reducible refine Below.drew ?_) | (with_reducible refine below_drewN ?_ _) | (with_reducible refine Below.alloc ?_ (by first | omega | (simp; done) | (simp; omega) | (simp at *; omega)) _) | (with_reducible refine Below.setCell ?_ (by first | omega | (simp; done) | (simp; omega) | (simp at *; omega)) _) | (with_reducible exact Below.refl _ _) | (with_reducible assumption) | (with_reducible refine Below.trans ?_ (Below.mono (by assumption) (by first | omega | (simp; done) | (simp; omega) | (simp at *; omega))))))))) hAE).mono ?_
  rintro e x9 ⟨rfl, hb9⟩
  have zz9 := hb9.size
  try simp at zz9
  have hB9 : Below u.heap.size u x9 := (by (repeat (first | (with_reducible refine Below.drew ?_) | (with_reducible refine below_drewN ?_ _) | (with_reducible refine Below.alloc ?_ (by first | omega | (simp; done) | (simp; omega) | (simp at *; omega)) _) | (with_reducible refine Below.setCell ?_ (by first | omega | (simp; done) | (simp; omega) | (simp at *; omega)) _) | (with_reducible exact Below.refl _ _) | (with_reducible assumption) | (with_reducible refine Below.trans ?_ (Below.mono (by assumption) (by first | omega | (simp; done) | (simp; omega) | (simp at *; omega)))))))
  have zu9 := hB9.size
  clear hb9 hB8 zz8 zu8 t0 t1 c0 c1 c2 c3 hBe hlt
  obtain ⟨t0, t1, c0, c1, c2, c3, hBe, hlt⟩ := HS.out _ hB9
  go_wp2
  go_ret
  exact ⟨rfl, hBe⟩
set_option maxRecDepth 100000 in
set_option maxHeartbeats 4000000 in
theorem slw_p (m l a b : Int) (s : Bool) (L : List Wv) (A : Option Addr) (n cap : Nat) (w : World) (hn : Hid (n = L.length)) (hl : n ≤ 12) (hF : Hid (fewB n = true)) (HR : Hid (∀ w' : World, Below w.heap.size w w' → SlRows wvV 3 w' A L)) (CA : Hid (A = none → n = 0 ∧ cap = 0)) (P E : Int) (hT : Hid (tidE m L = 0)) (hP : Hid (spnE a b = P)) (hz : (P != 0) = true) (hAE : Hid (askE m L l a b = E)) (hzE : (E != 0) = true) (hBr : Hid ((P != 0 || decide (b - a < 200)) = true)) :
    Calls Tryz.prog 3 #[.agg #[.int .i64 m, .slice A n cap], .agg #[.int .i64 l, .int .i64 a, .int .i64 b, .bool s]] w fun e w' => e = .returned (.bool true) ∧ Below w.heap.size w w' := by
  have hHE : Hid (firE [tidE m L, spnE a b] = P) := Lib.hid (by unfold firE firE; rw [hT.out, hP.out, if_pos rfl, if_neg (by simpa using hz)])
  have hzH := hz
  have hz2 : (P == 0) = false := by simpa [bne] using hz
  have hz3 : (E == 0) = false := by simpa [bne] using hzE
  go_enter Tryz.func3, Tryz.ntmps3
  go_upto_region 1 with (fail)
  refine wp_world (AskS m A n cap l a b s w) ⟨by simp [go_sem, World.cell?_alloc_past], by simp [go_sem, World.cell?_alloc_past], by simp [go_sem, World.cell?_alloc_past], by simp [go_sem, World.cell?_alloc_past], by simp [go_sem, World.cell?_alloc_past], by simp [go_sem, World.cell?_alloc_past], (by (repeat (first | (with_reducible refine Below.drew ?_) | (with_reducible refine below_drewN ?_ _) | (with_reducible refine Below.alloc ?_ (by first | omega | (simp; done) | (simp; omega) | (simp at *; omega)) _) | (with_reducible refine Below.setCell ?_ (by first | omega | (simp; done) | (simp; omega) | (simp at *; omega)) _) | (with_reducible exact Below.refl _ _) | (with_reducible assumption) | (with_reducible refine Below.trans ?_ (Below.mono (by assumption) (by first | omega | (simp; done) | (simp; omega) | (simp at *; omega))))))), by simp⟩ (fun u hu => ?_)
  have HU := Lib.hid hu
  have HS : Hid (∀ x, Below u.heap.size u x → AskS m A n cap l a b s w x) := Lib.hid fun x hx => HU.out.below hx
  have HA : Hid (∀ x, Below u.heap.size u x → SlRows wvV 3 x A L) := Lib.hid fun x hx => HR.out _ (HU.out.below hx).be
  clear hu
  go_wp2_with fail
  refine (awake_any _).mono ?_
  rintro e x1 ⟨rfl, hb1⟩
  have zz1 := hb1.size
  try simp at zz1
  have hB1 : Below u.heap.size u x1 := (by (repeat (first | (with_reducible refine Below.drew ?_) | (with_reducible refine below_drewN ?_ _) | (with_reducible refine Below.alloc ?_ (by first | omega | (simp; done) | (simp; omega) | (simp at *; omega)) _) | (with_reducible refine Below.setCell ?_ (by first | omega | (simp; done) | (simp; omega) | (simp at *; omega)) _) | (with_reducible exact Below.refl _ _) | (with_reducible assumption) | (with_reducible refine Below.trans ?_ (Below.mono (by assumption) (by first | omega | (simp; done) | (simp; omega) | (simp at *; omega)))))))
  have zu1 := hB1.size
  clear hb1 
  obtain ⟨t0, t1, c0, c1, c2, c3, hBe, hlt⟩ := HS.out _ hB1
  go_wp2_with fail
  refine (few_is m A n cap true _ (by omega) hF).mono ?_
  rintro e x2 ⟨rfl, hb2⟩
  have zz2 := hb2.size
  try simp at zz2
  have hB2 : Below u.heap.size u x2 := (by (repeat (first | (with_reducible refine Below.drew ?_) | (with_reducible refine below_drewN ?_ _) | (with_reducible refine Below.alloc ?_ (by first | omega | (simp; done) | (simp; omega) | (simp at *; omega)) _) | (with_reducible refine Below.setCell ?_ (by first | omega | (simp; done) | (simp; omega) | (simp at *; omega)) _) | (with_reducible exact Below.refl _ _) | (with_reducible assumption) | (with_reducible refine Below.trans ?_ (Below.mono (by assumption) (by first | omega | (simp; done) | (simp; omega) | (simp at *; omega)))))))
  have zu2 := hB2.size
  clear hb2 hB1 zz1 zu1 t0 t1 c0 c1 c2 c3 hBe hlt
  obtain ⟨t0, t1, c0, c1, c2, c3, hBe, hlt⟩ := HS.out _ hB2
  go_wp2_with fail
  refine (brief_is a b P true _ hP hBr).mono ?_
  rintro e x3 ⟨rfl, hb3⟩
  have zz3 := hb3.size
  try simp at zz3
  have hB3 : Below u.heap.size u x3 := (by (repeat (first | (with_reducible refine Below.drew ?_) | (with_reducible refine below_drewN ?_ _) | (with_reducible refine Below.alloc ?_ (by first | omega | (simp; done) | (simp; omega) | (simp at *; omega)) _) | (with_reducible refine Below.setCell ?_ (by first | omega | (simp; done) | (simp; omega) | (simp at *; omega)) _) | (with_reducible exact Below.refl _ _) | (with_reducible assumption) | (with_reducible refine Below.trans ?_ (Below.mono (by assumption) (by first | omega | (simp; done) | (simp; omega) | (simp at *; omega)))))))
  have zu3 := hB3.size
  clear hb3 hB2 zz2 zu2 t0 t1 c0 c1 c2 c3 hBe hlt
  obtain ⟨t0, t1, c0, c1, c2, c3, hBe, hlt⟩ := HS.out _ hB3
  go_upto_region 5 with (fail)
  refine wp_region_held_drew (S := (fun w' => w'.cell? ⟨w.heap.size, 0, none⟩ = some (.int .i64 m) ∧ w'.cell? ⟨w.heap.size, 1, none⟩ = some (.slice A n cap) ∧ w'.cell? ⟨w.heap.size + 1, 0, none⟩ = some (.int .i64 l) ∧ w'.cell? ⟨w.heap.size + 1, 1, none⟩ = some (.int .i64 a) ∧ w'.cell? ⟨w.heap.size + 1, 2, none⟩ = some (.int .i64 b) ∧ w'.cell? ⟨w.heap.size + 1, 3, none⟩ = some (.bool s))) (by kernel_rfl) (by simp [go_sem, World.cell?_alloc_past, *]) (fun hHeld => ?_)
  refine tkH 0 ⟨some 24, _, _, _, _, _⟩ ?_ rfl ?_ (by assumption) ?_
  rotate_left
  · (intro w hSw; (try dsimp only at hSw); go_simp; all_goals with_reducible rfl)
  try simp only [Act.put, sA, sB, sC]
  refine tkH 2 ⟨some 26, _, _, _, _, _⟩ ?_ rfl ?_ (by assumption) ?_
  rotate_left
  · (intro w hSw; (try dsimp only at hSw); go_simp; all_goals with_reducible rfl)
  try simp only [Act.put, sA, sB, sC]
  refine wpAnyH_ready (rs := [1]) (by kernel_rfl) (by simp) ?_
  refine AllReadyH.cons rfl (fun K hK => ?_) AllReadyH.nil
  go_simp
  refine (own_is m L A n cap _ hn (by omega) (Lib.hid (HA.out _ (by (repeat (first | (with_reducible refine Below.drew ?_) | (with_reducible refine below_drewN ?_ _) | (with_reducible refine Below.alloc ?_ (by first | omega | (simp; done) | (simp; omega) | (simp at *; omega)) _) | (with_reducible refine Below.setCell ?_ (by first | omega | (simp; done) | (simp; omega) | (simp at *; omega)) _) | (with_reducible exact Below.refl _ _) | (with_reducible assumption) | (with_reducible refine Below.trans ?_ (Below.mono (by assumption) (by first | omega | (simp; done) | (simp; omega) | (simp at *; omega))))))))) CA).mono ?_
  rintro e x4 ⟨G5, cg5, rfl, hG5, hb4⟩
  have zz4 := hb4.size
  try simp at zz4
  have hB4 : Below u.heap.size u x4 := (by (repeat (first | (with_reducible refine Below.drew ?_) | (with_reducible refine below_drewN ?_ _) | (with_reducible refine Below.alloc ?_ (by first | omega | (simp; done) | (simp; omega) | (simp at *; omega)) _) | (with_reducible refine Below.setCell ?_ (by first | omega | (simp; done) | (simp; omega) | (simp at *; omega)) _) | (with_reducible exact Below.refl _ _) | (with_reducible assumption) | (with_reducible refine Below.trans ?_ (Below.mono (by assumption) (by first | omega | (simp; done) | (simp; omega) | (simp at *; omega)))))))
  have zu4 := hB4.size
  have HG5 := Lib.hid hG5
  clear hG5
  clear hb4 hB3 zz3 zu3 t0 t1 c0 c1 c2 c3 hBe hlt
  obtain ⟨t0, t1, c0, c1, c2, c3, hBe, hlt⟩ := HS.out _ hB4
  go_wp2_with fail
  refine hK.out _ _ (by simp [go_sem, World.cell?_alloc_past, *]) (fun hHeld => ?_)
  clear hK K
  try simp only [Act.put, sA, sB, sC]
  refine wpAnyH_ready (rs := [3]) (by kernel_rfl) (by simp) ?_
  refine AllReadyH.cons rfl (fun K hK => ?_) AllReadyH.nil
  go_simp
  refine (SlackWindows_bad m L G5 cg5 n l a b E s _ hn (by omega) HG5 hAE hzE).mono ?_
  rintro e x5 ⟨rfl, hb5⟩
  have zz5 := hb5.size
  try simp at zz5
  have hB5 : Below u.heap.size u x5 := (by (repeat (first | (with_reducible refine Below.drew ?_) | (with_reducible refine below_drewN ?_ _) | (with_reducible refine Below.alloc ?_ (by first | omega | (simp; done) | (simp; omega) | (simp at *; omega)) _) | (with_reducible refine Below.setCell ?_ (by first | omega | (simp; done) | (simp; omega) | (simp at *; omega)) _) | (with_reducible exact Below.refl _ _) | (with_reducible assumption) | (with_reducible refine Below.trans ?_ (Below.mono (by assumption) (by first | omega | (simp; done) | (simp; omega) | (simp at *; omega)))))))
  have zu5 := hB5.size
  clear hb5 hB4 zz4 zu4 t0 t1 c0 c1 c2 c3 hBe hlt
  obtain ⟨t0, t1, c0, c1, c2, c3, hBe, hlt⟩ := HS.out _ hB5
  go_wp2_with fail
  refine hK.out _ _ (by simp [go_sem, World.cell?_alloc_past, *]) (fun hHeld => ?_)
  clear hK K
  try simp only [Act.put, sA, sB, sC]
  refine tkH 4 ⟨some 23, _, _, _, _, _⟩ ?_ rfl ?_ (by assumption) ?_
  rotate_left
  · (intro w hSw; (try dsimp only at hSw); go_simp; all_goals with_reducible rfl)
  try simp only [Act.put, sA, sB, sC]
  refine tkH 5 ⟨some 28, _, _, _, _, _⟩ ?_ rfl ?_ (by assumption) ?_
  rotate_left
  · (intro w hSw; (try dsimp only at hSw); go_simp; all_goals with_reducible rfl)
  try simp only [Act.put, sA, sB, sC]
  refine tkH 6 ⟨some 29, _, _, _, _, _⟩ ?_ rfl ?_ (by assumption) ?_
  rotate_left
  · (intro w hSw; (try dsimp only at hSw); go_simp; all_goals with_reducible rfl)
  try simp only [Act.put, sA, sB, sC]
  refine tkH 7 ⟨some 5, _, _, _, _, _⟩ ?_ rfl ?_ (by assumption) ?_
  rotate_left
  · (intro w hSw; (try dsimp only at hSw); go_simp; all_goals with_reducible rfl)
  try simp only [Act.put, sA, sB, sC]
  refine tkH 8 ⟨some 6, _, _, _, _, _⟩ ?_ rfl ?_ (by assumption) ?_
  rotate_left
  · (intro w hSw; (try dsimp only at hSw); go_simp; all_goals with_reducible rfl)
  try simp only [Act.put, sA, sB, sC]
  refine wpAnyH_done (by kernel_rfl) ?_ _
  go_upto_region 6 with (fail)
  refine wp_region_held_drew (S := (fun w' => w'.cell? ⟨w.heap.size, 0, none⟩ = some (.int .i64 m) ∧ w'.cell? ⟨w.heap.size, 1, none⟩ = some (.slice A n cap) ∧ w'.cell? ⟨w.heap.size + 1, 0, none⟩ = some (.int .i64 l) ∧ w'.cell? ⟨w.heap.size + 1, 1, none⟩ = some (.int .i64 a) ∧ w'.cell? ⟨w.heap.size + 1, 2, none⟩ = some (.int .i64 b) ∧ w'.cell? ⟨w.heap.size + 1, 3, none⟩ = some (.bool s))) (by kernel_rfl) (by simp [go_sem, World.cell?_alloc_past, *]) (fun hHeld => ?_)
  refine tkH 0 ⟨some 31, _, _, _, _, _⟩ ?_ rfl ?_ (by assumption) ?_
  rotate_left
  · (intro w hSw; (try dsimp only at hSw); go_simp; all_goals with_reducible rfl)
  try simp only [Act.put, sA, sB, sC]
  refine tkH 2 ⟨some 33, _, _, _, _, _⟩ ?_ rfl ?_ (by assumption) ?_
  rotate_left
  · (intro w hSw; (try dsimp only at hSw); go_simp; all_goals with_reducible rfl)
  try simp only [Act.put, sA, sB, sC]
  refine tkH 3 ⟨some 34, _, _, _, _, _⟩ ?_ rfl ?_ (by assumption) ?_
  rotate_left
  · (intro w hSw; (try dsimp only at hSw); go_simp; all_goals with_reducible rfl)
  try simp only [Act.put, sA, sB, sC]
  refine wpAnyH_ready (rs := [1]) (by kernel_rfl) (by simp) ?_
  refine AllReadyH.cons rfl (fun K hK => ?_) AllReadyH.nil
  go_simp
  refine (own_is m L A n cap _ hn (by omega) (Lib.hid (HA.out _ (by (repeat (first | (with_reducible refine Below.drew ?_) | (with_reducible refine below_drewN ?_ _) | (with_reducible refine Below.alloc ?_ (by first | omega | (simp; done) | (simp; omega) | (simp at *; omega)) _) | (with_reducible refine Below.setCell ?_ (by first | omega | (simp; done) | (simp; omega) | (simp at *; omega)) _) | (with_reducible exact Below.refl _ _) | (with_reducible assumption) | (with_reducible refine Below.trans ?_ (Below.mono (by assumption) (by first | omega | (simp; done) | (simp; omega) | (simp at *; omega))))))))) CA).mono ?_
  rintro e x6 ⟨G6, cg6, rfl, hG6, hb6⟩
  have zz6 := hb6.size
  try simp at zz6
  have hB6 : Below u.heap.size u x6 := (by (repeat (first | (with_reducible refine Below.drew ?_) | (with_reducible refine below_drewN ?_ _) | (with_reducible refine Below.alloc ?_ (by first | omega | (simp; done) | (simp; omega) | (simp at *; omega)) _) | (with_reducible refine Below.setCell ?_ (by first | omega | (simp; done) | (simp; omega) | (simp at *; omega)) _) | (with_reducible exact Below.refl _ _) | (with_reducible assumption) | (with_reducible refine Below.trans ?_ (Below.mono (by assumption) (by first | omega | (simp; done) | (simp; omega) | (simp at *; omega)))))))
  have zu6 := hB6.size
  have HG6 := Lib.hid hG6
  clear hG6
  clear hb6 hB5 zz5 zu5 t0 t1 c0 c1 c2 c3 hBe hlt
  obtain ⟨t0, t1, c0, c1, c2, c3, hBe, hlt⟩ := HS.out _ hB6
  go_wp2_with fail
  refine hK.out _ _ (by simp [go_sem, World.cell?_alloc_past, *]) (fun hHeld => ?_)
  clear hK K
  try simp only [Act.put, sA, sB, sC]
  refine wpAnyH_ready (rs := [4]) (by kernel_rfl) (by simp) ?_
  refine AllReadyH.cons rfl (fun K hK => ?_) AllReadyH.nil
  go_simp
  refine (Highest_bad m L G6 cg6 n a b P _ hn (by omega) HG6 hHE hzH).mono ?_
  rintro e x7 ⟨rfl, hb7⟩
  have zz7 := hb7.size
  try simp at zz7
  have hB7 : Below u.heap.size u x7 := (by (repeat (first | (with_reducible refine Below.drew ?_) | (with_reducible refine below_drewN ?_ _) | (with_reducible refine Below.alloc ?_ (by first | omega | (simp; done) | (simp; omega) | (simp at *; omega)) _) | (with_reducible refine Below.setCell ?_ (by first | omega | (simp; done) | (simp; omega) | (simp at *; omega)) _) | (with_reducible exact Below.refl _ _) | (with_reducible assumption) | (with_reducible refine Below.trans ?_ (Below.mono (by assumption) (by first | omega | (simp; done) | (simp; omega) | (simp at *; omega)))))))
  have zu7 := hB7.size
  clear hb7 hB6 zz6 zu6 t0 t1 c0 c1 c2 c3 hBe hlt
  obtain ⟨t0, t1, c0, c1, c2, c3, hBe, hlt⟩ := HS.out _ hB7
  go_wp2_with fail
  refine hK.out _ _ (by simp [go_sem, World.cell?_alloc_past, *]) (fun hHeld => ?_)
  clear hK K
  try simp only [Act.put, sA, sB, sC]
  refine tkH 5 ⟨some 30, _, _, _, _, _⟩ ?_ rfl ?_ (by assumption) ?_
  rotate_left
  · (intro w hSw; (try dsimp only at hSw); go_simp; all_goals with_reducible rfl)
  try simp only [Act.put, sA, sB, sC]
  refine tkH 6 ⟨some 36, _, _, _, _, _⟩ ?_ rfl ?_ (by assumption) ?_
  rotate_left
  · (intro w hSw; (try dsimp only at hSw); go_simp; all_goals with_reducible rfl)
  try simp only [Act.put, sA, sB, sC]
  refine tkH 7 ⟨some 37, _, _, _, _, _⟩ ?_ rfl ?_ (by assumption) ?_
  rotate_left
  · (intro w hSw; (try dsimp only at hSw); go_simp; all_goals with_reducible rfl)
  try simp only [Act.put, sA, sB, sC]
  refine tkH 8 ⟨some 7, _, _, _, _, _⟩ ?_ rfl ?_ (by assumption) ?_
  rotate_left
  · (intro w hSw; (try dsimp only at hSw); go_simp; all_goals with_reducible rfl)
  try simp only [Act.put, sA, sB, sC]
  refine tkH 9 ⟨some 8, _, _, _, _, _⟩ ?_ rfl ?_ (by assumption) ?_
  rotate_left
  · (intro w hSw; (try dsimp only at hSw); go_simp; all_goals with_reducible rfl)
  try simp only [Act.put, sA, sB, sC]
  refine wpAnyH_done (by kernel_rfl) ?_ _
  go_wp2_with fail
  refine (refTide_is m L A cap n 0 _ hn (by omega) (Lib.hid (HA.out _ (by (repeat (first | (with_reducible refine Below.drew ?_) | (with_reducible refine below_drewN ?_ _) | (with_reducible refine Below.alloc ?_ (by first | omega | (simp; done) | (simp; omega) | (simp at *; omega)) _) | (with_reducible refine Below.setCell ?_ (by first | omega | (simp; done) | (simp; omega) | (simp at *; omega)) _) | (with_reducible exact Below.refl _ _) | (with_reducible assumption) | (with_reducible refine Below.trans ?_ (Below.mono (by assumption) (by first | omega | (simp; done) | (simp; omega) | (simp at *; omega))))))))) hT).mono ?_
  rintro e x8 ⟨rfl, hb8⟩
  have zz8 := hb8.size
  try simp at zz8
  have hB8 : Below u.heap.size u x8 := (by (repeat (first | (with_reducible refine Below.drew ?_) | (with_reducible refine below_drewN ?_ _) | (with_reducible refine Below.alloc ?_ (by first | omega | (simp; done) | (simp; omega) | (simp at *; omega)) _) | (with_reducible refine Below.setCell ?_ (by first | omega | (simp; done) | (simp; omega) | (simp at *; omega)) _) | (with_reducible exact Below.refl _ _) | (with_reducible assumption) | (with_reducible refine Below.trans ?_ (Below.mono (by assumption) (by first | omega | (simp; done) | (simp; omega) | (simp at *; omega)))))))
  have zu8 := hB8.size
  clear hb8 hB7 zz7 zu7 t0 t1 c0 c1 c2 c3 hBe hlt
  obtain ⟨t0, t1, c0, c1, c2, c3, hBe, hlt⟩ := HS.out _ hB8
  go_wp2_with fail
  refine (refSpan_is a b P _ hP).mono ?_
  rintro e x9 ⟨rfl, hb9⟩
  have zz9 := hb9.size
  try simp at zz9
  have hB9 : Below u.heap.size u x9 := (by (repeat (first | (with_reducible refine Below.drew ?_) | (with_reducible refine below_drewN ?_ _) | (with_reducible refine Below.alloc ?_ (by first | omega | (simp; done) | (simp; omega) | (simp at *; omega)) _) | (with_reducible refine Below.setCell ?_ (by first | omega | (simp; done) | (simp; omega) | (simp at *; omega)) _) | (with_reducible exact Below.refl _ _) | (with_reducible assumption) | (with_reducible refine Below.trans ?_ (Below.mono (by assumption) (by first | omega | (simp; done) | (simp; omega) | (simp at *; omega)))))))
  have zu9 := hB9.size
  clear hb9 hB8 zz8 zu8 t0 t1 c0 c1 c2 c3 hBe hlt
  obtain ⟨t0, t1, c0, c1, c2, c3, hBe, hlt⟩ := HS.out _ hB9
  go_wp2_with fail
  refine (askErr_is m L A cap n l a b E s _ hn (by omega) (Lib.hid (HA.out _ (by (repeat (first | (with_reducible refine Below.drew ?_) | (with_reducible refine below_drewN ?_ _) | (with_reducible refine Below.alloc ?_ (by first | omega | (simp; done) | (simp; omega) | (simp at *; omega)) _) | (with_reducible refine Below.setCell ?_ (by first | omega | (simp; done) | (simp; omega) | (simp at *; omega)) _) | (with_reducible exact Below.refl _ _) | (with_reducible assumption) | (with_reducible refine Below.trans ?_ (Below.mono (by assumption) (by first | omega | (simp; done) | (simp; omega) | (simp at *; omega))))))))) hAE).mono ?_
  rintro e x10 ⟨rfl, hb10⟩
  have zz10 := hb10.size
  try simp at zz10
  have hB10 : Below u.heap.size u x10 := (by (repeat (first | (with_reducible refine Below.drew ?_) | (with_reducible refine below_drewN ?_ _) | (with_reducible refine Below.alloc ?_ (by first | omega | (simp; done) | (simp; omega) | (simp at *; omega)) _) | (with_reducible refine Below.setCell ?_ (by first | omega | (simp; done) | (simp; omega) | (simp at *; omega)) _) | (with_reducible exact Below.refl _ _) | (with_reducible assumption) | (with_reducible refine Below.trans ?_ (Below.mono (by assumption) (by first | omega | (simp; done) | (simp; omega) | (simp at *; omega)))))))
  have zu10 := hB10.size
  clear hb10 hB9 zz9 zu9 t0 t1 c0 c1 c2 c3 hBe hlt
  obtain ⟨t0, t1, c0, c1, c2, c3, hBe, hlt⟩ := HS.out _ hB10
  go_wp2
  go_ret
  exact ⟨rfl, hBe⟩
set_option maxRecDepth 100000 in
set_option maxHeartbeats 4000000 in
theorem slw_l (m l a b : Int) (s : Bool) (L : List Wv) (A : Option Addr) (n cap : Nat) (w : World) (hn : Hid (n = L.length)) (hl : n ≤ 12) (hF : Hid (fewB n = true)) (HR : Hid (∀ w' : World, Below w.heap.size w w' → SlRows wvV 3 w' A L)) (CA : Hid (A = none → n = 0 ∧ cap = 0)) (hT : Hid (tidE m L = 0)) (hP : Hid (spnE a b = 0)) (hAE : Hid (askE m L l a b = 2)) (hBr : Hid (((0 : Int) != 0 || decide (b - a < 200)) = true)) :
    Calls Tryz.prog 3 #[.agg #[.int .i64 m, .slice A n cap], .agg #[.int .i64 l, .int .i64 a, .int .i64 b, .bool s]] w fun e w' => e = .returned (.bool true) ∧ Below w.heap.size w w' := by
  obtain ⟨m0, m1, h10', hW⟩ := tidE_ok hT.out
  obtain ⟨a0, ab, b1, hs3⟩ := spnE_ok hP.out
  have h10 : n ≤ 10 := by rw [hn.out]; exact h10'
  have HW := Lib.hid hW
  have hHE : Hid (firE [tidE m L, spnE a b] = 0) := Lib.hid (by unfold firE firE firE; rw [hT.out, hP.out]; rfl)
  obtain ⟨r, hr⟩ : ∃ r, Hid ((hgV m L a (b - a).toNat).1 = r) := ⟨_, Lib.hid rfl⟩
  obtain ⟨P, hPP⟩ : ∃ P : Int, P = 0 := ⟨0, rfl⟩
  clear hW h10' hPP P
  have hzE : ((2 : Int) != 0) = true := by decide
  go_enter Tryz.func3, Tryz.ntmps3
  go_upto_region 1 with (fail)
  refine wp_world (AskS m A n cap l a b s w) ⟨by simp [go_sem, World.cell?_alloc_past], by simp [go_sem, World.cell?_alloc_past], by simp [go_sem, World.cell?_alloc_past], by simp [go_sem, World.cell?_alloc_past], by simp [go_sem, World.cell?_alloc_past], by simp [go_sem, World.cell?_alloc_past], (by (repeat (first | (with_reducible refine Below.drew ?_) | (with_reducible refine below_drewN ?_ _) | (with_reducible refine Below.alloc ?_ (by first | omega | (simp; done) | (simp; omega) | (simp at *; omega)) _) | (with_reducible refine Below.setCell ?_ (by first | omega | (simp; done) | (simp; omega) | (simp at *; omega)) _) | (with_reducible exact Below.refl _ _) | (with_reducible assumption) | (with_reducible refine Below.trans ?_ (Below.mono (by assumption) (by first | omega | (simp; done) | (simp; omega) | (simp at *; omega))))))), by simp⟩ (fun u hu => ?_)
  have HU := Lib.hid hu
  have HS : Hid (∀ x, Below u.heap.size u x → AskS m A n cap l a b s w x) := Lib.hid fun x hx => HU.out.below hx
  have HA : Hid (∀ x, Below u.heap.size u x → SlRows wvV 3 x A L) := Lib.hid fun x hx => HR.out _ (HU.out.below hx).be
  clear hu
  go_wp2_with fail
  refine (awake_any _).mono ?_
  rintro e x1 ⟨rfl, hb1⟩
  have zz1 := hb1.size
  try simp at zz1
  have hB1 : Below u.heap.size u x1 := (by (repeat (first | (with_reducible refine Below.drew ?_) | (with_reducible refine below_drewN ?_ _) | (with_reducible refine Below.alloc ?_ (by first | omega | (simp; done) | (simp; omega) | (simp at *; omega)) _) | (with_reducible refine Below.setCell ?_ (by first | omega | (simp; done) | (simp; omega) | (simp at *; omega)) _) | (with_reducible exact Below.refl _ _) | (with_reducible assumption) | (with_reducible refine Below.trans ?_ (Below.mono (by assumption) (by first | omega | (simp; done) | (simp; omega) | (simp at *; omega)))))))
  have zu1 := hB1.size
  clear hb1 
  obtain ⟨t0, t1, c0, c1, c2, c3, hBe, hlt⟩ := HS.out _ hB1
  go_wp2_with fail
  refine (few_is m A n cap true _ (by omega) hF).mono ?_
  rintro e x2 ⟨rfl, hb2⟩
  have zz2 := hb2.size
  try simp at zz2
  have hB2 : Below u.heap.size u x2 := (by (repeat (first | (with_reducible refine Below.drew ?_) | (with_reducible refine below_drewN ?_ _) | (with_reducible refine Below.alloc ?_ (by first | omega | (simp; done) | (simp; omega) | (simp at *; omega)) _) | (with_reducible refine Below.setCell ?_ (by first | omega | (simp; done) | (simp; omega) | (simp at *; omega)) _) | (with_reducible exact Below.refl _ _) | (with_reducible assumption) | (with_reducible refine Below.trans ?_ (Below.mono (by assumption) (by first | omega | (simp; done) | (simp; omega) | (simp at *; omega)))))))
  have zu2 := hB2.size
  clear hb2 hB1 zz1 zu1 t0 t1 c0 c1 c2 c3 hBe hlt
  obtain ⟨t0, t1, c0, c1, c2, c3, hBe, hlt⟩ := HS.out _ hB2
  go_wp2_with fail
  refine (brief_is a b 0 true _ hP hBr).mono ?_
  rintro e x3 ⟨rfl, hb3⟩
  have zz3 := hb3.size
  try simp at zz3
  have hB3 : Below u.heap.size u x3 := (by (repeat (first | (with_reducible refine Below.drew ?_) | (with_reducible refine below_drewN ?_ _) | (with_reducible refine Below.alloc ?_ (by first | omega | (simp; done) | (simp; omega) | (simp at *; omega)) _) | (with_reducible refine Below.setCell ?_ (by first | omega | (simp; done) | (simp; omega) | (simp at *; omega)) _) | (with_reducible exact Below.refl _ _) | (with_reducible assumption) | (with_reducible refine Below.trans ?_ (Below.mono (by assumption) (by first | omega | (simp; done) | (simp; omega) | (simp at *; omega)))))))
  have zu3 := hB3.size
  clear hb3 hB2 zz2 zu2 t0 t1 c0 c1 c2 c3 hBe hlt
  obtain ⟨t0, t1, c0, c1, c2, c3, hBe, hlt⟩ := HS.out _ hB3
  go_upto_region 5 with (fail)
  refine wp_region_held_drew (S := (fun w' => w'.cell? ⟨w.heap.size, 0, none⟩ = some (.int .i64 m) ∧ w'.cell? ⟨w.heap.size, 1, none⟩ = some (.slice A n cap) ∧ w'.cell? ⟨w.heap.size + 1, 0, none⟩ = some (.int .i64 l) ∧ w'.cell? ⟨w.heap.size + 1, 1, none⟩ = some (.int .i64 a) ∧ w'.cell? ⟨w.heap.size + 1, 2, none⟩ = some (.int .i64 b) ∧ w'.cell? ⟨w.heap.size + 1, 3, none⟩ = some (.bool s))) (by kernel_rfl) (by simp [go_sem, World.cell?_alloc_past, *]) (fun hHeld => ?_)
  refine tkH 0 ⟨some 24, _, _, _, _, _⟩ ?_ rfl ?_ (by assumption) ?_
  rotate_left
  · (intro w hSw; (try dsimp only at hSw); go_simp; all_goals with_reducible rfl)
  try simp only [Act.put, sA, sB, sC]
  refine tkH 2 ⟨some 26, _, _, _, _, _⟩ ?_ rfl ?_ (by assumption) ?_
  rotate_left
  · (intro w hSw; (try dsimp only at hSw); go_simp; all_goals with_reducible rfl)
  try simp only [Act.put, sA, sB, sC]
  refine wpAnyH_ready (rs := [1]) (by kernel_rfl) (by simp) ?_
  refine AllReadyH.cons rfl (fun K hK => ?_) AllReadyH.nil
  go_simp
  refine (own_is m L A n cap _ hn (by omega) (Lib.hid (HA.out _ (by (repeat (first | (with_reducible refine Below.drew ?_) | (with_reducible refine below_drewN ?_ _) | (with_reducible refine Below.alloc ?_ (by first | omega | (simp; done) | (simp; omega) | (simp at *; omega)) _) | (with_reducible refine Below.setCell ?_ (by first | omega | (simp; done) | (simp; omega) | (simp at *; omega)) _) | (with_reducible exact Below.refl _ _) | (with_reducible assumption) | (with_reducible refine Below.trans ?_ (Below.mono (by assumption) (by first | omega | (simp; done) | (simp; omega) | (simp at *; omega))))))))) CA).mono ?_
  rintro e x4 ⟨G5, cg5, rfl, hG5, hb4⟩
  have zz4 := hb4.size
  try simp at zz4
  have hB4 : Below u.heap.size u x4 := (by (repeat (first | (with_reducible refine Below.drew ?_) | (with_reducible refine below_drewN ?_ _) | (with_reducible refine Below.alloc ?_ (by first | omega | (simp; done) | (simp; omega) | (simp at *; omega)) _) | (with_reducible refine Below.setCell ?_ (by first | omega | (simp; done) | (simp; omega) | (simp at *; omega)) _) | (with_reducible exact Below.refl _ _) | (with_reducible assumption) | (with_reducible refine Below.trans ?_ (Below.mono (by assumption) (by first | omega | (simp; done) | (simp; omega) | (simp at *; omega)))))))
  have zu4 := hB4.size
  have HG5 := Lib.hid hG5
  clear hG5
  clear hb4 hB3 zz3 zu3 t0 t1 c0 c1 c2 c3 hBe hlt
  obtain ⟨t0, t1, c0, c1, c2, c3, hBe, hlt⟩ := HS.out _ hB4
  go_wp2_with fail
  refine hK.out _ _ (by simp [go_sem, World.cell?_alloc_past, *]) (fun hHeld => ?_)
  clear hK K
  try simp only [Act.put, sA, sB, sC]
  refine wpAnyH_ready (rs := [3]) (by kernel_rfl) (by simp) ?_
  refine AllReadyH.cons rfl (fun K hK => ?_) AllReadyH.nil
  go_simp
  refine (SlackWindows_bad m L G5 cg5 n l a b 2 s _ hn (by omega) HG5 hAE hzE).mono ?_
  rintro e x5 ⟨rfl, hb5⟩
  have zz5 := hb5.size
  try simp at zz5
  have hB5 : Below u.heap.size u x5 := (by (repeat (first | (with_reducible refine Below.drew ?_) | (with_reducible refine below_drewN ?_ _) | (with_reducible refine Below.alloc ?_ (by first | omega | (simp; done) | (simp; omega) | (simp at *; omega)) _) | (with_reducible refine Below.setCell ?_ (by first | omega | (simp; done) | (simp; omega) | (simp at *; omega)) _) | (with_reducible exact Below.refl _ _) | (with_reducible assumption) | (with_reducible refine Below.trans ?_ (Below.mono (by assumption) (by first | omega | (simp; done) | (simp; omega) | (simp at *; omega)))))))
  have zu5 := hB5.size
  clear hb5 hB4 zz4 zu4 t0 t1 c0 c1 c2 c3 hBe hlt
  obtain ⟨t0, t1, c0, c1, c2, c3, hBe, hlt⟩ := HS.out _ hB5
  go_wp2_with fail
  refine hK.out _ _ (by simp [go_sem, World.cell?_alloc_past, *]) (fun hHeld => ?_)
  clear hK K
  try simp only [Act.put, sA, sB, sC]
  refine tkH 4 ⟨some 23, _, _, _, _, _⟩ ?_ rfl ?_ (by assumption) ?_
  rotate_left
  · (intro w hSw; (try dsimp only at hSw); go_simp; all_goals with_reducible rfl)
  try simp only [Act.put, sA, sB, sC]
  refine tkH 5 ⟨some 28, _, _, _, _, _⟩ ?_ rfl ?_ (by assumption) ?_
  rotate_left
  · (intro w hSw; (try dsimp only at hSw); go_simp; all_goals with_reducible rfl)
  try simp only [Act.put, sA, sB, sC]
  refine tkH 6 ⟨some 29, _, _, _, _, _⟩ ?_ rfl ?_ (by assumption) ?_
  rotate_left
  · (intro w hSw; (try dsimp only at hSw); go_simp; all_goals with_reducible rfl)
  try simp only [Act.put, sA, sB, sC]
  refine tkH 7 ⟨some 5, _, _, _, _, _⟩ ?_ rfl ?_ (by assumption) ?_
  rotate_left
  · (intro w hSw; (try dsimp only at hSw); go_simp; all_goals with_reducible rfl)
  try simp only [Act.put, sA, sB, sC]
  refine tkH 8 ⟨some 6, _, _, _, _, _⟩ ?_ rfl ?_ (by assumption) ?_
  rotate_left
  · (intro w hSw; (try dsimp only at hSw); go_simp; all_goals with_reducible rfl)
  try simp only [Act.put, sA, sB, sC]
  refine wpAnyH_done (by kernel_rfl) ?_ _
  go_upto_region 6 with (fail)
  refine wp_region_held_drew (S := (fun w' => w'.cell? ⟨w.heap.size, 0, none⟩ = some (.int .i64 m) ∧ w'.cell? ⟨w.heap.size, 1, none⟩ = some (.slice A n cap) ∧ w'.cell? ⟨w.heap.size + 1, 0, none⟩ = some (.int .i64 l) ∧ w'.cell? ⟨w.heap.size + 1, 1, none⟩ = some (.int .i64 a) ∧ w'.cell? ⟨w.heap.size + 1, 2, none⟩ = some (.int .i64 b) ∧ w'.cell? ⟨w.heap.size + 1, 3, none⟩ = some (.bool s))) (by kernel_rfl) (by simp [go_sem, World.cell?_alloc_past, *]) (fun hHeld => ?_)
  refine tkH 0 ⟨some 31, _, _, _, _, _⟩ ?_ rfl ?_ (by assumption) ?_
  rotate_left
  · (intro w hSw; (try dsimp only at hSw); go_simp; all_goals with_reducible rfl)
  try simp only [Act.put, sA, sB, sC]
  refine tkH 2 ⟨some 33, _, _, _, _, _⟩ ?_ rfl ?_ (by assumption) ?_
  rotate_left
  · (intro w hSw; (try dsimp only at hSw); go_simp; all_goals with_reducible rfl)
  try simp only [Act.put, sA, sB, sC]
  refine tkH 3 ⟨some 34, _, _, _, _, _⟩ ?_ rfl ?_ (by assumption) ?_
  rotate_left
  · (intro w hSw; (try dsimp only at hSw); go_simp; all_goals with_reducible rfl)
  try simp only [Act.put, sA, sB, sC]
  refine wpAnyH_ready (rs := [1]) (by kernel_rfl) (by simp) ?_
  refine AllReadyH.cons rfl (fun K hK => ?_) AllReadyH.nil
  go_simp
  refine (own_is m L A n cap _ hn (by omega) (Lib.hid (HA.out _ (by (repeat (first | (with_reducible refine Below.drew ?_) | (with_reducible refine below_drewN ?_ _) | (with_reducible refine Below.alloc ?_ (by first | omega | (simp; done) | (simp; omega) | (simp at *; omega)) _) | (with_reducible refine Below.setCell ?_ (by first | omega | (simp; done) | (simp; omega) | (simp at *; omega)) _) | (with_reducible exact Below.refl _ _) | (with_reducible assumption) | (with_reducible refine Below.trans ?_ (Below.mono (by assumption) (by first | omega | (simp; done) | (simp; omega) | (simp at *; omega))))))))) CA).mono ?_
  rintro e x6 ⟨G6, cg6, rfl, hG6, hb6⟩
  have zz6 := hb6.size
  try simp at zz6
  have hB6 : Below u.heap.size u x6 := (by (repeat (first | (with_reducible refine Below.drew ?_) | (with_reducible refine below_drewN ?_ _) | (with_reducible refine Below.alloc ?_ (by first | omega | (simp; done) | (simp; omega) | (simp at *; omega)) _) | (with_reducible refine Below.setCell ?_ (by first | omega | (simp; done) | (simp; omega) | (simp at *; omega)) _) | (with_reducible exact Below.refl _ _) | (with_reducible assumption) | (with_reducible refine Below.trans ?_ (Below.mono (by assumption) (by first | omega | (simp; done) | (simp; omega) | (simp at *; omega)))))))
  have zu6 := hB6.size
  have HG6 := Lib.hid hG6
  clear hG6
  clear hb6 hB5 zz5 zu5 t0 t1 c0 c1 c2 c3 hBe hlt
  obtain ⟨t0, t1, c0, c1, c2, c3, hBe, hlt⟩ := HS.out _ hB6
  go_wp2_with fail
  refine hK.out _ _ (by simp [go_sem, World.cell?_alloc_past, *]) (fun hHeld => ?_)
  clear hK K
  try simp only [Act.put, sA, sB, sC]
  refine wpAnyH_ready (rs := [4]) (by kernel_rfl) (by simp) ?_
  refine AllReadyH.cons rfl (fun K hK => ?_) AllReadyH.nil
  go_simp
  refine (Highest_good m L G6 cg6 n a b r _ hn (by omega) HG6 hHE hr).mono ?_
  rintro e x7 ⟨rfl, hb7⟩
  have zz7 := hb7.size
  try simp at zz7
  have hB7 : Below u.heap.size u x7 := (by (repeat (first | (with_reducible refine Below.drew ?_) | (with_reducible refine below_drewN ?_ _) | (with_reducible refine Below.alloc ?_ (by first | omega | (simp; done) | (simp; omega) | (simp at *; omega)) _) | (with_reducible refine Below.setCell ?_ (by first | omega | (simp; done) | (simp; omega) | (simp at *; omega)) _) | (with_reducible exact Below.refl _ _) | (with_reducible assumption) | (with_reducible refine Below.trans ?_ (Below.mono (by assumption) (by first | omega | (simp; done) | (simp; omega) | (simp at *; omega)))))))
  have zu7 := hB7.size
  clear hb7 hB6 zz6 zu6 t0 t1 c0 c1 c2 c3 hBe hlt
  obtain ⟨t0, t1, c0, c1, c2, c3, hBe, hlt⟩ := HS.out _ hB7
  go_wp2_with fail
  refine hK.out _ _ (by simp [go_sem, World.cell?_alloc_past, *]) (fun hHeld => ?_)
  clear hK K
  try simp only [Act.put, sA, sB, sC]
  refine tkH 5 ⟨some 30, _, _, _, _, _⟩ ?_ rfl ?_ (by assumption) ?_
  rotate_left
  · (intro w hSw; (try dsimp only at hSw); go_simp; all_goals with_reducible rfl)
  try simp only [Act.put, sA, sB, sC]
  refine tkH 6 ⟨some 36, _, _, _, _, _⟩ ?_ rfl ?_ (by assumption) ?_
  rotate_left
  · (intro w hSw; (try dsimp only at hSw); go_simp; all_goals with_reducible rfl)
  try simp only [Act.put, sA, sB, sC]
  refine tkH 7 ⟨some 37, _, _, _, _, _⟩ ?_ rfl ?_ (by assumption) ?_
  rotate_left
  · (intro w hSw; (try dsimp only at hSw); go_simp; all_goals with_reducible rfl)
  try simp only [Act.put, sA, sB, sC]
  refine tkH 8 ⟨some 7, _, _, _, _, _⟩ ?_ rfl ?_ (by assumption) ?_
  rotate_left
  · (intro w hSw; (try dsimp only at hSw); go_simp; all_goals with_reducible rfl)
  try simp only [Act.put, sA, sB, sC]
  refine tkH 9 ⟨some 8, _, _, _, _, _⟩ ?_ rfl ?_ (by assumption) ?_
  rotate_left
  · (intro w hSw; (try dsimp only at hSw); go_simp; all_goals with_reducible rfl)
  try simp only [Act.put, sA, sB, sC]
  refine wpAnyH_done (by kernel_rfl) ?_ _
  go_wp2_with fail
  refine (refTide_is m L A cap n 0 _ hn (by omega) (Lib.hid (HA.out _ (by (repeat (first | (with_reducible refine Below.drew ?_) | (with_reducible refine below_drewN ?_ _) | (with_reducible refine Below.alloc ?_ (by first | omega | (simp; done) | (simp; omega) | (simp at *; omega)) _) | (with_reducible refine Below.setCell ?_ (by first | omega | (simp; done) | (simp; omega) | (simp at *; omega)) _) | (with_reducible exact Below.refl _ _) | (with_reducible assumption) | (with_reducible refine Below.trans ?_ (Below.mono (by assumption) (by first | omega | (simp; done) | (simp; omega) | (simp at *; omega))))))))) hT).mono ?_
  rintro e x8 ⟨rfl, hb8⟩
  have zz8 := hb8.size
  try simp at zz8
  have hB8 : Below u.heap.size u x8 := (by (repeat (first | (with_reducible refine Below.drew ?_) | (with_reducible refine below_drewN ?_ _) | (with_reducible refine Below.alloc ?_ (by first | omega | (simp; done) | (simp; omega) | (simp at *; omega)) _) | (with_reducible refine Below.setCell ?_ (by first | omega | (simp; done) | (simp; omega) | (simp at *; omega)) _) | (with_reducible exact Below.refl _ _) | (with_reducible assumption) | (with_reducible refine Below.trans ?_ (Below.mono (by assumption) (by first | omega | (simp; done) | (simp; omega) | (simp at *; omega)))))))
  have zu8 := hB8.size
  clear hb8 hB7 zz7 zu7 t0 t1 c0 c1 c2 c3 hBe hlt
  obtain ⟨t0, t1, c0, c1, c2, c3, hBe, hlt⟩ := HS.out _ hB8
  go_wp2_with fail
  refine (refSpan_is a b 0 _ hP).mono ?_
  rintro e x9 ⟨rfl, hb9⟩
  have zz9 := hb9.size
  try simp at zz9
  have hB9 : Below u.heap.size u x9 := (by (repeat (first | (with_reducible refine Below.drew ?_) | (with_reducible refine below_drewN ?_ _) | (with_reducible refine Below.alloc ?_ (by first | omega | (simp; done) | (simp; omega) | (simp at *; omega)) _) | (with_reducible refine Below.setCell ?_ (by first | omega | (simp; done) | (simp; omega) | (simp at *; omega)) _) | (with_reducible exact Below.refl _ _) | (with_reducible assumption) | (with_reducible refine Below.trans ?_ (Below.mono (by assumption) (by first | omega | (simp; done) | (simp; omega) | (simp at *; omega)))))))
  have zu9 := hB9.size
  clear hb9 hB8 zz8 zu8 t0 t1 c0 c1 c2 c3 hBe hlt
  obtain ⟨t0, t1, c0, c1, c2, c3, hBe, hlt⟩ := HS.out _ hB9
  go_wp2_with fail
  refine (refHigh_is m L A cap n a b r _ hn h10 HW m0 m1 a0 ab b1 (Lib.hid (HA.out _ (by (repeat (first | (with_reducible refine Below.drew ?_) | (with_reducible refine below_drewN ?_ _) | (with_reducible refine Below.alloc ?_ (by first | omega | (simp; done) | (simp; omega) | (simp at *; omega)) _) | (with_reducible refine Below.setCell ?_ (by first | omega | (simp; done) | (simp; omega) | (simp at *; omega)) _) | (with_reducible exact Below.refl _ _) | (with_reducible assumption) | (with_reducible refine Below.trans ?_ (Below.mono (by assumption) (by first | omega | (simp; done) | (simp; omega) | (simp at *; omega))))))))) hr).mono ?_
  rintro e x10 ⟨rfl, hb10⟩
  have zz10 := hb10.size
  try simp at zz10
  have hB10 : Below u.heap.size u x10 := (by (repeat (first | (with_reducible refine Below.drew ?_) | (with_reducible refine below_drewN ?_ _) | (with_reducible refine Below.alloc ?_ (by first | omega | (simp; done) | (simp; omega) | (simp at *; omega)) _) | (with_reducible refine Below.setCell ?_ (by first | omega | (simp; done) | (simp; omega) | (simp at *; omega)) _) | (with_reducible exact Below.refl _ _) | (with_reducible assumption) | (with_reducible refine Below.trans ?_ (Below.mono (by assumption) (by first | omega | (simp; done) | (simp; omega) | (simp at *; omega)))))))
  have zu10 := hB10.size
  clear hb10 hB9 zz9 zu9 t0 t1 c0 c1 c2 c3 hBe hlt
  obtain ⟨t0, t1, c0, c1, c2, c3, hBe, hlt⟩ := HS.out _ hB10
  go_wp2_with fail
  refine (askErr_is m L A cap n l a b 2 s _ hn (by omega) (Lib.hid (HA.out _ (by (repeat (first | (with_reducible refine Below.drew ?_) | (with_reducible refine below_drewN ?_ _) | (with_reducible refine Below.alloc ?_ (by first | omega | (simp; done) | (simp; omega) | (simp at *; omega)) _) | (with_reducible refine Below.setCell ?_ (by first | omega | (simp; done) | (simp; omega) | (simp at *; omega)) _) | (with_reducible exact Below.refl _ _) | (with_reducible assumption) | (with_reducible refine Below.trans ?_ (Below.mono (by assumption) (by first | omega | (simp; done) | (simp; omega) | (simp at *; omega))))))))) hAE).mono ?_
  rintro e x11 ⟨rfl, hb11⟩
  have zz11 := hb11.size
  try simp at zz11
  have hB11 : Below u.heap.size u x11 := (by (repeat (first | (with_reducible refine Below.drew ?_) | (with_reducible refine below_drewN ?_ _) | (with_reducible refine Below.alloc ?_ (by first | omega | (simp; done) | (simp; omega) | (simp at *; omega)) _) | (with_reducible refine Below.setCell ?_ (by first | omega | (simp; done) | (simp; omega) | (simp at *; omega)) _) | (with_reducible exact Below.refl _ _) | (with_reducible assumption) | (with_reducible refine Below.trans ?_ (Below.mono (by assumption) (by first | omega | (simp; done) | (simp; omega) | (simp at *; omega)))))))
  have zu11 := hB11.size
  clear hb11 hB10 zz10 zu10 t0 t1 c0 c1 c2 c3 hBe hlt
  obtain ⟨t0, t1, c0, c1, c2, c3, hBe, hlt⟩ := HS.out _ hB11
  go_wp2
  go_ret
  exact ⟨rfl, hBe⟩
theorem SlackWindows_few (m : Int) (L : List Wv) (A : Option Addr) (cap n N : Nat) (l a b : Int) (s : Bool) (V : List Rg) (w : World) (hn : Hid (n = L.length)) (hl : n ≤ 1000000) (HL : Hid (SlRows wvV 3 w A L)) (hE0 : Hid (askE m L l a b = 0)) (hN : Hid ((N : Int) = b - a + 1)) (hV : Hid (rwL a (fun k => slkG m L l (lstV s) (a + (k : Int))) N = V)) (hq : V.length ≤ 60) :
    Calls Tryz.prog 14 #[.agg #[.int .i64 m, .slice A n cap], .agg #[.int .i64 l, .int .i64 a, .int .i64 b, .bool s]] w (WofP V w) := by
  refine (SlackWindows_good m L A cap n N l a b s w hn hl HL hE0 hN).mono ?_
  rw [hV.out]
  rintro e w' (⟨_, h⟩ | ⟨h, _⟩)
  · exact h
  · omega
theorem SlackWindows_many (m : Int) (L : List Wv) (A : Option Addr) (cap n N : Nat) (l a b : Int) (s : Bool) (V : List Rg) (w : World) (hn : Hid (n = L.length)) (hl : n ≤ 1000000) (HL : Hid (SlRows wvV 3 w A L)) (hE0 : Hid (askE m L l a b = 0)) (hN : Hid ((N : Int) = b - a + 1)) (hV : Hid (rwL a (fun k => slkG m L l (lstV s) (a + (k : Int))) N = V)) (hq : 60 < V.length) :
    Calls Tryz.prog 14 #[.agg #[.int .i64 m, .slice A n cap], .agg #[.int .i64 l, .int .i64 a, .int .i64 b, .bool s]] w fun e w' => e = .returned (.tuple #[.slice none 0 0, .int .i64 8]) ∧ Below w.heap.size w w' := by
  refine (SlackWindows_good m L A cap n N l a b s w hn hl HL hE0 hN).mono ?_
  rw [hV.out]
  rintro e w' (⟨h, _⟩ | ⟨_, h⟩)
  · omega
  · exact h
theorem refSlackW_v (m : Int) (L : List Wv) (A : Option Addr) (cap n N : Nat) (l a b : Int) (s : Bool) (V : List Rg) (w : World) (hn : Hid (n = L.length)) (hl : n ≤ 10) (HW : Hid (∀ x ∈ L, WvOk x)) (m0 : -100000 ≤ m) (m1 : m ≤ 100000) (l0 : 0 ≤ l) (l1 : l ≤ 10000000) (a0 : 0 ≤ a) (ab : a ≤ b) (b1 : b ≤ 1000000) (hs3 : b - a < 3000) (HL : Hid (SlRows wvV 3 w A L)) (hN : Hid ((N : Int) = b - a + 1)) (hV : Hid (rwL a (fun k => slkG m L l (lstV s) (a + (k : Int))) N = V)) :
    Calls Tryz.prog 21 #[.agg #[.int .i64 m, .slice A n cap], .agg #[.int .i64 l, .int .i64 a, .int .i64 b, .bool s]] w (RwP V w) := by
  rw [← hV.out]
  exact refSlackW_is m L A cap n N l a b s w hn hl HW m0 m1 l0 l1 a0 ab b1 hs3 HL hN
set_option maxRecDepth 100000 in
set_option maxHeartbeats 4000000 in
theorem slw_many (m l a b : Int) (s : Bool) (L : List Wv) (A : Option Addr) (n cap : Nat) (w : World) (hn : Hid (n = L.length)) (hl : n ≤ 12) (hF : Hid (fewB n = true)) (HR : Hid (∀ w' : World, Below w.heap.size w w' → SlRows wvV 3 w' A L)) (CA : Hid (A = none → n = 0 ∧ cap = 0)) (hT : Hid (tidE m L = 0)) (hP : Hid (spnE a b = 0)) (hAE : Hid (askE m L l a b = 0)) (hBr : Hid (((0 : Int) != 0 || decide (b - a < 200)) = true)) (l0 : 0 ≤ l) (l1 : l ≤ 10000000) (N : Nat) (hN : Hid ((N : Int) = b - a + 1)) (V : List Rg) (hV : Hid (rwL a (fun k => slkG m L l (lstV s) (a + (k : Int))) N = V)) (q : 60 < V.length) :
    Calls Tryz.prog 3 #[.agg #[.int .i64 m, .slice A n cap], .agg #[.int .i64 l, .int .i64 a, .int .i64 b, .bool s]] w fun e w' => e = .returned (.bool true) ∧ Below w.heap.size w w' := by
  obtain ⟨m0, m1, h10', hW⟩ := tidE_ok hT.out
  obtain ⟨a0, ab, b1, hs3⟩ := spnE_ok hP.out
  have h10 : n ≤ 10 := by rw [hn.out]; exact h10'
  have HW := Lib.hid hW
  have hHE : Hid (firE [tidE m L, spnE a b] = 0) := Lib.hid (by unfold firE firE firE; rw [hT.out, hP.out]; rfl)
  obtain ⟨r, hr⟩ : ∃ r, Hid ((hgV m L a (b - a).toNat).1 = r) := ⟨_, Lib.hid rfl⟩
  obtain ⟨P, hPP⟩ : ∃ P : Int, P = 0 := ⟨0, rfl⟩
  clear hW h10' hPP P
  have qi : (60 : Int) < (V.length : Int) := by omega
  go_enter Tryz.func3, Tryz.ntmps3
  go_upto_region 1 with (fail)
  refine wp_world (AskS m A n cap l a b s w) ⟨by simp [go_sem, World.cell?_alloc_past], by simp [go_sem, World.cell?_alloc_past], by simp [go_sem, World.cell?_alloc_past], by simp [go_sem, World.cell?_alloc_past], by simp [go_sem, World.cell?_alloc_past], by simp [go_sem, World.cell?_alloc_past], (by (repeat (first | (with_reducible refine Below.drew ?_) | (with_reducible refine below_drewN ?_ _) | (with_reducible refine Below.alloc ?_ (by first | omega | (simp; done) | (simp; omega) | (simp at *; omega)) _) | (with_reducible refine Below.setCell ?_ (by first | omega | (simp; done) | (simp; omega) | (simp at *; omega)) _) | (with_reducible exact Below.refl _ _) | (with_reducible assumption) | (with_reducible refine Below.trans ?_ (Below.mono (by assumption) (by first | omega | (simp; done) | (simp; omega) | (simp at *; omega))))))), by simp⟩ (fun u hu => ?_)
  have HU := Lib.hid hu
  have HS : Hid (∀ x, Below u.heap.size u x → AskS m A n cap l a b s w x) := Lib.hid fun x hx => HU.out.below hx
  have HA : Hid (∀ x, Below u.heap.size u x → SlRows wvV 3 x A L) := Lib.hid fun x hx => HR.out _ (HU.out.below hx).be
  clear hu
  go_wp2_with fail
  refine (awake_any _).mono ?_
  rintro e x1 ⟨rfl, hb1⟩
  have zz1 := hb1.size
  try simp at zz1
  have hB1 : Below u.heap.size u x1 := (by (repeat (first | (with_reducible refine Below.drew ?_) | (with_reducible refine below_drewN ?_ _) | (with_reducible refine Below.alloc ?_ (by first | omega | (simp; done) | (simp; omega) | (simp at *; omega)) _) | (with_reducible refine Below.setCell ?_ (by first | omega | (simp; done) | (simp; omega) | (simp at *; omega)) _) | (with_reducible exact Below.refl _ _) | (with_reducible assumption) | (with_reducible refine Below.trans ?_ (Below.mono (by assumption) (by first | omega | (simp; done) | (simp; omega) | (simp at *; omega)))))))
  have zu1 := hB1.size
  clear hb1 
  obtain ⟨t0, t1, c0, c1, c2, c3, hBe, hlt⟩ := HS.out _ hB1
  go_wp2_with fail
  refine (few_is m A n cap true _ (by omega) hF).mono ?_
  rintro e x2 ⟨rfl, hb2⟩
  have zz2 := hb2.size
  try simp at zz2
  have hB2 : Below u.heap.size u x2 := (by (repeat (first | (with_reducible refine Below.drew ?_) | (with_reducible refine below_drewN ?_ _) | (with_reducible refine Below.alloc ?_ (by first | omega | (simp; done) | (simp; omega) | (simp at *; omega)) _) | (with_reducible refine Below.setCell ?_ (by first | omega | (simp; done) | (simp; omega) | (simp at *; omega)) _) | (with_reducible exact Below.refl _ _) | (with_reducible assumption) | (with_reducible refine Below.trans ?_ (Below.mono (by assumption) (by first | omega | (simp; done) | (simp; omega) | (simp at *; omega)))))))
  have zu2 := hB2.size
  clear hb2 hB1 zz1 zu1 t0 t1 c0 c1 c2 c3 hBe hlt
  obtain ⟨t0, t1, c0, c1, c2, c3, hBe, hlt⟩ := HS.out _ hB2
  go_wp2_with fail
  refine (brief_is a b 0 true _ hP hBr).mono ?_
  rintro e x3 ⟨rfl, hb3⟩
  have zz3 := hb3.size
  try simp at zz3
  have hB3 : Below u.heap.size u x3 := (by (repeat (first | (with_reducible refine Below.drew ?_) | (with_reducible refine below_drewN ?_ _) | (with_reducible refine Below.alloc ?_ (by first | omega | (simp; done) | (simp; omega) | (simp at *; omega)) _) | (with_reducible refine Below.setCell ?_ (by first | omega | (simp; done) | (simp; omega) | (simp at *; omega)) _) | (with_reducible exact Below.refl _ _) | (with_reducible assumption) | (with_reducible refine Below.trans ?_ (Below.mono (by assumption) (by first | omega | (simp; done) | (simp; omega) | (simp at *; omega)))))))
  have zu3 := hB3.size
  clear hb3 hB2 zz2 zu2 t0 t1 c0 c1 c2 c3 hBe hlt
  obtain ⟨t0, t1, c0, c1, c2, c3, hBe, hlt⟩ := HS.out _ hB3
  go_upto_region 5 with (fail)
  refine wp_region_held_drew (S := (fun w' => w'.cell? ⟨w.heap.size, 0, none⟩ = some (.int .i64 m) ∧ w'.cell? ⟨w.heap.size, 1, none⟩ = some (.slice A n cap) ∧ w'.cell? ⟨w.heap.size + 1, 0, none⟩ = some (.int .i64 l) ∧ w'.cell? ⟨w.heap.size + 1, 1, none⟩ = some (.int .i64 a) ∧ w'.cell? ⟨w.heap.size + 1, 2, none⟩ = some (.int .i64 b) ∧ w'.cell? ⟨w.heap.size + 1, 3, none⟩ = some (.bool s))) (by kernel_rfl) (by simp [go_sem, World.cell?_alloc_past, *]) (fun hHeld => ?_)
  refine tkH 0 ⟨some 24, _, _, _, _, _⟩ ?_ rfl ?_ (by assumption) ?_
  rotate_left
  · (intro w hSw; (try dsimp only at hSw); go_simp; all_goals with_reducible rfl)
  try simp only [Act.put, sA, sB, sC]
  refine tkH 2 ⟨some 26, _, _, _, _, _⟩ ?_ rfl ?_ (by assumption) ?_
  rotate_left
  · (intro w hSw; (try dsimp only at hSw); go_simp; all_goals with_reducible rfl)
  try simp only [Act.put, sA, sB, sC]
  refine wpAnyH_ready (rs := [1]) (by kernel_rfl) (by simp) ?_
  refine AllReadyH.cons rfl (fun K hK => ?_) AllReadyH.nil
  go_simp
  refine (own_is m L A n cap _ hn (by omega) (Lib.hid (HA.out _ (by (repeat (first | (with_reducible refine Below.drew ?_) | (with_reducible refine below_drewN ?_ _) | (with_reducible refine Below.alloc ?_ (by first | omega | (simp; done) | (simp; omega) | (simp at *; omega)) _) | (with_reducible refine Below.setCell ?_ (by first | omega | (simp; done) | (simp; omega) | (simp at *; omega)) _) | (with_reducible exact Below.refl _ _) | (with_reducible assumption) | (with_reducible refine Below.trans ?_ (Below.mono (by assumption) (by first | omega | (simp; done) | (simp; omega) | (simp at *; omega))))))))) CA).mono ?_
  rintro e x4 ⟨G5, cg5, rfl, hG5, hb4⟩
  have zz4 := hb4.size
  try simp at zz4
  have hB4 : Below u.heap.size u x4 := (by (repeat (first | (with_reducible refine Below.drew ?_) | (with_reducible refine below_drewN ?_ _) | (with_reducible refine Below.alloc ?_ (by first | omega | (simp; done) | (simp; omega) | (simp at *; omega)) _) | (with_reducible refine Below.setCell ?_ (by first | omega | (simp; done) | (simp; omega) | (simp at *; omega)) _) | (with_reducible exact Below.refl _ _) | (with_reducible assumption) | (with_reducible refine Below.trans ?_ (Below.mono (by assumption) (by first | omega | (simp; done) | (simp; omega) | (simp at *; omega)))))))
  have zu4 := hB4.size
  have HG5 := Lib.hid hG5
  clear hG5
  clear hb4 hB3 zz3 zu3 t0 t1 c0 c1 c2 c3 hBe hlt
  obtain ⟨t0, t1, c0, c1, c2, c3, hBe, hlt⟩ := HS.out _ hB4
  go_wp2_with fail
  refine hK.out _ _ (by simp [go_sem, World.cell?_alloc_past, *]) (fun hHeld => ?_)
  clear hK K
  try simp only [Act.put, sA, sB, sC]
  refine wpAnyH_ready (rs := [3]) (by kernel_rfl) (by simp) ?_
  refine AllReadyH.cons rfl (fun K hK => ?_) AllReadyH.nil
  go_simp
  refine (SlackWindows_many m L G5 cg5 n N l a b s V _ hn (by omega) HG5 hAE hN hV q).mono ?_
  rintro e x5 ⟨rfl, hb5⟩
  have zz5 := hb5.size
  try simp at zz5
  have hB5 : Below u.heap.size u x5 := (by (repeat (first | (with_reducible refine Below.drew ?_) | (with_reducible refine below_drewN ?_ _) | (with_reducible refine Below.alloc ?_ (by first | omega | (simp; done) | (simp; omega) | (simp at *; omega)) _) | (with_reducible refine Below.setCell ?_ (by first | omega | (simp; done) | (simp; omega) | (simp at *; omega)) _) | (with_reducible exact Below.refl _ _) | (with_reducible assumption) | (with_reducible refine Below.trans ?_ (Below.mono (by assumption) (by first | omega | (simp; done) | (simp; omega) | (simp at *; omega)))))))
  have zu5 := hB5.size
  clear hb5 hB4 zz4 zu4 t0 t1 c0 c1 c2 c3 hBe hlt
  obtain ⟨t0, t1, c0, c1, c2, c3, hBe, hlt⟩ := HS.out _ hB5
  go_wp2_with fail
  refine hK.out _ _ (by simp [go_sem, World.cell?_alloc_past, *]) (fun hHeld => ?_)
  clear hK K
  try simp only [Act.put, sA, sB, sC]
  refine tkH 4 ⟨some 23, _, _, _, _, _⟩ ?_ rfl ?_ (by assumption) ?_
  rotate_left
  · (intro w hSw; (try dsimp only at hSw); go_simp; all_goals with_reducible rfl)
  try simp only [Act.put, sA, sB, sC]
  refine tkH 5 ⟨some 28, _, _, _, _, _⟩ ?_ rfl ?_ (by assumption) ?_
  rotate_left
  · (intro w hSw; (try dsimp only at hSw); go_simp; all_goals with_reducible rfl)
  try simp only [Act.put, sA, sB, sC]
  refine tkH 6 ⟨some 29, _, _, _, _, _⟩ ?_ rfl ?_ (by assumption) ?_
  rotate_left
  · (intro w hSw; (try dsimp only at hSw); go_simp; all_goals with_reducible rfl)
  try simp only [Act.put, sA, sB, sC]
  refine tkH 7 ⟨some 5, _, _, _, _, _⟩ ?_ rfl ?_ (by assumption) ?_
  rotate_left
  · (intro w hSw; (try dsimp only at hSw); go_simp; all_goals with_reducible rfl)
  try simp only [Act.put, sA, sB, sC]
  refine tkH 8 ⟨some 6, _, _, _, _, _⟩ ?_ rfl ?_ (by assumption) ?_
  rotate_left
  · (intro w hSw; (try dsimp only at hSw); go_simp; all_goals with_reducible rfl)
  try simp only [Act.put, sA, sB, sC]
  refine wpAnyH_done (by kernel_rfl) ?_ _
  go_upto_region 6 with (fail)
  refine wp_region_held_drew (S := (fun w' => w'.cell? ⟨w.heap.size, 0, none⟩ = some (.int .i64 m) ∧ w'.cell? ⟨w.heap.size, 1, none⟩ = some (.slice A n cap) ∧ w'.cell? ⟨w.heap.size + 1, 0, none⟩ = some (.int .i64 l) ∧ w'.cell? ⟨w.heap.size + 1, 1, none⟩ = some (.int .i64 a) ∧ w'.cell? ⟨w.heap.size + 1, 2, none⟩ = some (.int .i64 b) ∧ w'.cell? ⟨w.heap.size + 1, 3, none⟩ = some (.bool s))) (by kernel_rfl) (by simp [go_sem, World.cell?_alloc_past, *]) (fun hHeld => ?_)
  refine tkH 0 ⟨some 31, _, _, _, _, _⟩ ?_ rfl ?_ (by assumption) ?_
  rotate_left
  · (intro w hSw; (try dsimp only at hSw); go_simp; all_goals with_reducible rfl)
  try simp only [Act.put, sA, sB, sC]
  refine tkH 2 ⟨some 33, _, _, _, _, _⟩ ?_ rfl ?_ (by assumption) ?_
  rotate_left
  · (intro w hSw; (try dsimp only at hSw); go_simp; all_goals with_reducible rfl)
  try simp only [Act.put, sA, sB, sC]
  refine tkH 3 ⟨some 34, _, _, _, _, _⟩ ?_ rfl ?_ (by assumption) ?_
  rotate_left
  · (intro w hSw; (try dsimp only at hSw); go_simp; all_goals with_reducible rfl)
  try simp only [Act.put, sA, sB, sC]
  refine wpAnyH_ready (rs := [1]) (by kernel_rfl) (by simp) ?_
  refine AllReadyH.cons rfl (fun K hK => ?_) AllReadyH.nil
  go_simp
  refine (own_is m L A n cap _ hn (by omega) (Lib.hid (HA.out _ (by (repeat (first | (with_reducible refine Below.drew ?_) | (with_reducible refine below_drewN ?_ _) | (with_reducible refine Below.alloc ?_ (by first | omega | (simp; done) | (simp; omega) | (simp at *; omega)) _) | (with_reducible refine Below.setCell ?_ (by first | omega | (simp; done) | (simp; omega) | (simp at *; omega)) _) | (with_reducible exact Below.refl _ _) | (with_reducible assumption) | (with_reducible refine Below.trans ?_ (Below.mono (by assumption) (by first | omega | (simp; done) | (simp; omega) | (simp at *; omega))))))))) CA).mono ?_
  rintro e x6 ⟨G6, cg6, rfl, hG6, hb6⟩
  have zz6 := hb6.size
  try simp at zz6
  have hB6 : Below u.heap.size u x6 := (by (repeat (first | (with_reducible refine Below.drew ?_) | (with_reducible refine below_drewN ?_ _) | (with_reducible refine Below.alloc ?_ (by first | omega | (simp; done) | (simp; omega) | (simp at *; omega)) _) | (with_reducible refine Below.setCell ?_ (by first | omega | (simp; done) | (simp; omega) | (simp at *; omega)) _) | (with_reducible exact Below.refl _ _) | (with_reducible assumption) | (with_reducible refine Below.trans ?_ (Below.mono (by assumption) (by first | omega | (simp; done) | (simp; omega) | (simp at *; omega)))))))
  have zu6 := hB6.size
  have HG6 := Lib.hid hG6
  clear hG6
  clear hb6 hB5 zz5 zu5 t0 t1 c0 c1 c2 c3 hBe hlt
  obtain ⟨t0, t1, c0, c1, c2, c3, hBe, hlt⟩ := HS.out _ hB6
  go_wp2_with fail
  refine hK.out _ _ (by simp [go_sem, World.cell?_alloc_past, *]) (fun hHeld => ?_)
  clear hK K
  try simp only [Act.put, sA, sB, sC]
  refine wpAnyH_ready (rs := [4]) (by kernel_rfl) (by simp) ?_
  refine AllReadyH.cons rfl (fun K hK => ?_) AllReadyH.nil
  go_simp
  refine (Highest_good m L G6 cg6 n a b r _ hn (by omega) HG6 hHE hr).mono ?_
  rintro e x7 ⟨rfl, hb7⟩
  have zz7 := hb7.size
  try simp at zz7
  have hB7 : Below u.heap.size u x7 := (by (repeat (first | (with_reducible refine Below.drew ?_) | (with_reducible refine below_drewN ?_ _) | (with_reducible refine Below.alloc ?_ (by first | omega | (simp; done) | (simp; omega) | (simp at *; omega)) _) | (with_reducible refine Below.setCell ?_ (by first | omega | (simp; done) | (simp; omega) | (simp at *; omega)) _) | (with_reducible exact Below.refl _ _) | (with_reducible assumption) | (with_reducible refine Below.trans ?_ (Below.mono (by assumption) (by first | omega | (simp; done) | (simp; omega) | (simp at *; omega)))))))
  have zu7 := hB7.size
  clear hb7 hB6 zz6 zu6 t0 t1 c0 c1 c2 c3 hBe hlt
  obtain ⟨t0, t1, c0, c1, c2, c3, hBe, hlt⟩ := HS.out _ hB7
  go_wp2_with fail
  refine hK.out _ _ (by simp [go_sem, World.cell?_alloc_past, *]) (fun hHeld => ?_)
  clear hK K
  try simp only [Act.put, sA, sB, sC]
  refine tkH 5 ⟨some 30, _, _, _, _, _⟩ ?_ rfl ?_ (by assumption) ?_
  rotate_left
  · (intro w hSw; (try dsimp only at hSw); go_simp; all_goals with_reducible rfl)
  try simp only [Act.put, sA, sB, sC]
  refine tkH 6 ⟨some 36, _, _, _, _, _⟩ ?_ rfl ?_ (by assumption) ?_
  rotate_left
  · (intro w hSw; (try dsimp only at hSw); go_simp; all_goals with_reducible rfl)
  try simp only [Act.put, sA, sB, sC]
  refine tkH 7 ⟨some 37, _, _, _, _, _⟩ ?_ rfl ?_ (by assumption) ?_
  rotate_left
  · (intro w hSw; (try dsimp only at hSw); go_simp; all_goals with_reducible rfl)
  try simp only [Act.put, sA, sB, sC]
  refine tkH 8 ⟨some 7, _, _, _, _, _⟩ ?_ rfl ?_ (by assumption) ?_
  rotate_left
  · (intro w hSw; (try dsimp only at hSw); go_simp; all_goals with_reducible rfl)
  try simp only [Act.put, sA, sB, sC]
  refine tkH 9 ⟨some 8, _, _, _, _, _⟩ ?_ rfl ?_ (by assumption) ?_
  rotate_left
  · (intro w hSw; (try dsimp only at hSw); go_simp; all_goals with_reducible rfl)
  try simp only [Act.put, sA, sB, sC]
  refine wpAnyH_done (by kernel_rfl) ?_ _
  go_wp2_with fail
  refine (refTide_is m L A cap n 0 _ hn (by omega) (Lib.hid (HA.out _ (by (repeat (first | (with_reducible refine Below.drew ?_) | (with_reducible refine below_drewN ?_ _) | (with_reducible refine Below.alloc ?_ (by first | omega | (simp; done) | (simp; omega) | (simp at *; omega)) _) | (with_reducible refine Below.setCell ?_ (by first | omega | (simp; done) | (simp; omega) | (simp at *; omega)) _) | (with_reducible exact Below.refl _ _) | (with_reducible assumption) | (with_reducible refine Below.trans ?_ (Below.mono (by assumption) (by first | omega | (simp; done) | (simp; omega) | (simp at *; omega))))))))) hT).mono ?_
  rintro e x8 ⟨rfl, hb8⟩
  have zz8 := hb8.size
  try simp at zz8
  have hB8 : Below u.heap.size u x8 := (by (repeat (first | (with_reducible refine Below.drew ?_) | (with_reducible refine below_drewN ?_ _) | (with_reducible refine Below.alloc ?_ (by first | omega | (simp; done) | (simp; omega) | (simp at *; omega)) _) | (with_reducible refine Below.setCell ?_ (by first | omega | (simp; done) | (simp; omega) | (simp at *; omega)) _) | (with_reducible exact Below.refl _ _) | (with_reducible assumption) | (with_reducible refine Below.trans ?_ (Below.mono (by assumption) (by first | omega | (simp; done) | (simp; omega) | (simp at *; omega)))))))
  have zu8 := hB8.size
  clear hb8 hB7 zz7 zu7 t0 t1 c0 c1 c2 c3 hBe hlt
  obtain ⟨t0, t1, c0, c1, c2, c3, hBe, hlt⟩ := HS.out _ hB8
  go_wp2_with fail
  refine (refSpan_is a b 0 _ hP).mono ?_
  rintro e x9 ⟨rfl, hb9⟩
  have zz9 := hb9.size
  try simp at zz9
  have hB9 : Below u.heap.size u x9 := (by (repeat (first | (with_reducible refine Below.drew ?_) | (with_reducible refine below_drewN ?_ _) | (with_reducible refine Below.alloc ?_ (by first | omega | (simp; done) | (simp; omega) | (simp at *; omega)) _) | (with_reducible refine Below.setCell ?_ (by first | omega | (simp; done) | (simp; omega) | (simp at *; omega)) _) | (with_reducible exact Below.refl _ _) | (with_reducible assumption) | (with_reducible refine Below.trans ?_ (Below.mono (by assumption) (by first | omega | (simp; done) | (simp; omega) | (simp at *; omega)))))))
  have zu9 := hB9.size
  clear hb9 hB8 zz8 zu8 t0 t1 c0 c1 c2 c3 hBe hlt
  obtain ⟨t0, t1, c0, c1, c2, c3, hBe, hlt⟩ := HS.out _ hB9
  go_wp2_with fail
  refine (refHigh_is m L A cap n a b r _ hn h10 HW m0 m1 a0 ab b1 (Lib.hid (HA.out _ (by (repeat (first | (with_reducible refine Below.drew ?_) | (with_reducible refine below_drewN ?_ _) | (with_reducible refine Below.alloc ?_ (by first | omega | (simp; done) | (simp; omega) | (simp at *; omega)) _) | (with_reducible refine Below.setCell ?_ (by first | omega | (simp; done) | (simp; omega) | (simp at *; omega)) _) | (with_reducible exact Below.refl _ _) | (with_reducible assumption) | (with_reducible refine Below.trans ?_ (Below.mono (by assumption) (by first | omega | (simp; done) | (simp; omega) | (simp at *; omega))))))))) hr).mono ?_
  rintro e x10 ⟨rfl, hb10⟩
  have zz10 := hb10.size
  try simp at zz10
  have hB10 : Below u.heap.size u x10 := (by (repeat (first | (with_reducible refine Below.drew ?_) | (with_reducible refine below_drewN ?_ _) | (with_reducible refine Below.alloc ?_ (by first | omega | (simp; done) | (simp; omega) | (simp at *; omega)) _) | (with_reducible refine Below.setCell ?_ (by first | omega | (simp; done) | (simp; omega) | (simp at *; omega)) _) | (with_reducible exact Below.refl _ _) | (with_reducible assumption) | (with_reducible refine Below.trans ?_ (Below.mono (by assumption) (by first | omega | (simp; done) | (simp; omega) | (simp at *; omega)))))))
  have zu10 := hB10.size
  clear hb10 hB9 zz9 zu9 t0 t1 c0 c1 c2 c3 hBe hlt
  obtain ⟨t0, t1, c0, c1, c2, c3, hBe, hlt⟩ := HS.out _ hB10
  go_wp2_with fail
  refine (askErr_is m L A cap n l a b 0 s _ hn (by omega) (Lib.hid (HA.out _ (by (repeat (first | (with_reducible refine Below.drew ?_) | (with_reducible refine below_drewN ?_ _) | (with_reducible refine Below.alloc ?_ (by first | omega | (simp; done) | (simp; omega) | (simp at *; omega)) _) | (with_reducible refine Below.setCell ?_ (by first | omega | (simp; done) | (simp; omega) | (simp at *; omega)) _) | (with_reducible exact Below.refl _ _) | (with_reducible assumption) | (with_reducible refine Below.trans ?_ (Below.mono (by assumption) (by first | omega | (simp; done) | (simp; omega) | (simp at *; omega))))))))) hAE).mono ?_
  rintro e x11 ⟨rfl, hb11⟩
  have zz11 := hb11.size
  try simp at zz11
  have hB11 : Below u.heap.size u x11 := (by (repeat (first | (with_reducible refine Below.drew ?_) | (with_reducible refine below_drewN ?_ _) | (with_reducible refine Below.alloc ?_ (by first | omega | (simp; done) | (simp; omega) | (simp at *; omega)) _) | (with_reducible refine Below.setCell ?_ (by first | omega | (simp; done) | (simp; omega) | (simp at *; omega)) _) | (with_reducible exact Below.refl _ _) | (with_reducible assumption) | (with_reducible refine Below.trans ?_ (Below.mono (by assumption) (by first | omega | (simp; done) | (simp; omega) | (simp at *; omega)))))))
  have zu11 := hB11.size
  clear hb11 hB10 zz10 zu10 t0 t1 c0 c1 c2 c3 hBe hlt
  obtain ⟨t0, t1, c0, c1, c2, c3, hBe, hlt⟩ := HS.out _ hB11
  go_wp2_with fail
  refine (refSlackW_v m L A cap n N l a b s V _ hn h10 HW m0 m1 l0 l1 a0 ab b1 hs3 (Lib.hid (HA.out _ (by (repeat (first | (with_reducible refine Below.drew ?_) | (with_reducible refine below_drewN ?_ _) | (with_reducible refine Below.alloc ?_ (by first | omega | (simp; done) | (simp; omega) | (simp at *; omega)) _) | (with_reducible refine Below.setCell ?_ (by first | omega | (simp; done) | (simp; omega) | (simp at *; omega)) _) | (with_reducible exact Below.refl _ _) | (with_reducible assumption) | (with_reducible refine Below.trans ?_ (Below.mono (by assumption) (by first | omega | (simp; done) | (simp; omega) | (simp at *; omega))))))))) hN hV).mono ?_
  rintro e x12 ⟨GR, cR, rfl, hSR, hNR, hb12⟩
  have zz12 := hb12.size
  try simp at zz12
  have hB12 : Below u.heap.size u x12 := (by (repeat (first | (with_reducible refine Below.drew ?_) | (with_reducible refine below_drewN ?_ _) | (with_reducible refine Below.alloc ?_ (by first | omega | (simp; done) | (simp; omega) | (simp at *; omega)) _) | (with_reducible refine Below.setCell ?_ (by first | omega | (simp; done) | (simp; omega) | (simp at *; omega)) _) | (with_reducible exact Below.refl _ _) | (with_reducible assumption) | (with_reducible refine Below.trans ?_ (Below.mono (by assumption) (by first | omega | (simp; done) | (simp; omega) | (simp at *; omega)))))))
  have zu12 := hB12.size
  clear hSR hNR
  clear hb12 hB11 zz11 zu11 t0 t1 c0 c1 c2 c3 hBe hlt
  obtain ⟨t0, t1, c0, c1, c2, c3, hBe, hlt⟩ := HS.out _ hB12
  go_wp2
  go_ret
  exact ⟨rfl, hBe⟩
set_option maxRecDepth 100000 in
set_option maxHeartbeats 4000000 in
theorem slw_fine (m l a b : Int) (s : Bool) (L : List Wv) (A : Option Addr) (n cap : Nat) (w : World) (hn : Hid (n = L.length)) (hl : n ≤ 12) (hF : Hid (fewB n = true)) (HR : Hid (∀ w' : World, Below w.heap.size w w' → SlRows wvV 3 w' A L)) (CA : Hid (A = none → n = 0 ∧ cap = 0)) (hT : Hid (tidE m L = 0)) (hP : Hid (spnE a b = 0)) (hAE : Hid (askE m L l a b = 0)) (hBr : Hid (((0 : Int) != 0 || decide (b - a < 200)) = true)) (l0 : 0 ≤ l) (l1 : l ≤ 10000000) (N : Nat) (hN : Hid ((N : Int) = b - a + 1)) (V : List Rg) (hV : Hid (rwL a (fun k => slkG m L l (lstV s) (a + (k : Int))) N = V)) (q : V.length ≤ 60) :
    Calls Tryz.prog 3 #[.agg #[.int .i64 m, .slice A n cap], .agg #[.int .i64 l, .int .i64 a, .int .i64 b, .bool s]] w fun e w' => e = .returned (.bool true) ∧ Below w.heap.size w w' := by
  obtain ⟨m0, m1, h10', hW⟩ := tidE_ok hT.out
  obtain ⟨a0, ab, b1, hs3⟩ := spnE_ok hP.out
  have h10 : n ≤ 10 := by rw [hn.out]; exact h10'
  have HW := Lib.hid hW
  have hHE : Hid (firE [tidE m L, spnE a b] = 0) := Lib.hid (by unfold firE firE firE; rw [hT.out, hP.out]; rfl)
  obtain ⟨r, hr⟩ : ∃ r, Hid ((hgV m L a (b - a).toNat).1 = r) := ⟨_, Lib.hid rfl⟩
  obtain ⟨P, hPP⟩ : ∃ P : Int, P = 0 := ⟨0, rfl⟩
  clear hW h10' hPP P
  have qi : ¬ (60 : Int) < (V.length : Int) := by omega
  go_enter Tryz.func3, Tryz.ntmps3
  go_upto_region 1 with (fail)
  refine wp_world (AskS m A n cap l a b s w) ⟨by simp [go_sem, World.cell?_alloc_past], by simp [go_sem, World.cell?_alloc_past], by simp [go_sem, World.cell?_alloc_past], by simp [go_sem, World.cell?_alloc_past], by simp [go_sem, World.cell?_alloc_past], by simp [go_sem, World.cell?_alloc_past], (by (repeat (first | (with_reducible refine Below.drew ?_) | (with_reducible refine below_drewN ?_ _) | (with_reducible refine Below.alloc ?_ (by first | omega | (simp; done) | (simp; omega) | (simp at *; omega)) _) | (with_reducible refine Below.setCell ?_ (by first | omega | (simp; done) | (simp; omega) | (simp at *; omega)) _) | (with_reducible exact Below.refl _ _) | (with_reducible assumption) | (with_reducible refine Below.trans ?_ (Below.mono (by assumption) (by first | omega | (simp; done) | (simp; omega) | (simp at *; omega))))))), by simp⟩ (fun u hu => ?_)
  have HU := Lib.hid hu
  have HS : Hid (∀ x, Below u.heap.size u x → AskS m A n cap l a b s w x) := Lib.hid fun x hx => HU.out.below hx
  have HA : Hid (∀ x, Below u.heap.size u x → SlRows wvV 3 x A L) := Lib.hid fun x hx => HR.out _ (HU.out.below hx).be
  clear hu
  go_wp2_with fail
  refine (awake_any _).mono ?_
  rintro e x1 ⟨rfl, hb1⟩
  have zz1 := hb1.size
  try simp at zz1
  have hB1 : Below u.heap.size u x1 := (by (repeat (first | (with_reducible refine Below.drew ?_) | (with_reducible refine below_drewN ?_ _) | (with_reducible refine Below.alloc ?_ (by first | omega | (simp; done) | (simp; omega) | (simp at *; omega)) _) | (with_reducible refine Below.setCell ?_ (by first | omega | (simp; done) | (simp; omega) | (simp at *; omega)) _) | (with_reducible exact Below.refl _ _) | (with_reducible assumption) | (with_reducible refine Below.trans ?_ (Below.mono (by assumption) (by first | omega | (simp; done) | (simp; omega) | (simp at *; omega)))))))
  have zu1 := hB1.size
  clear hb1 
  obtain ⟨t0, t1, c0, c1, c2, c3, hBe, hlt⟩ := HS.out _ hB1
  go_wp2_with fail
  refine (few_is m A n cap true _ (by omega) hF).mono ?_
  rintro e x2 ⟨rfl, hb2⟩
  have zz2 := hb2.size
  try simp at zz2
  have hB2 : Below u.heap.size u x2 := (by (repeat (first | (with_reducible refine Below.drew ?_) | (with_reducible refine below_drewN ?_ _) | (with_reducible refine Below.alloc ?_ (by first | omega | (simp; done) | (simp; omega) | (simp at *; omega)) _) | (with_reducible refine Below.setCell ?_ (by first | omega | (simp; done) | (simp; omega) | (simp at *; omega)) _) | (with_reducible exact Below.refl _ _) | (with_reducible assumption) | (with_reducible refine Below.trans ?_ (Below.mono (by assumption) (by first | omega | (simp; done) | (simp; omega) | (simp at *; omega)))))))
  have zu2 := hB2.size
  clear hb2 hB1 zz1 zu1 t0 t1 c0 c1 c2 c3 hBe hlt
  obtain ⟨t0, t1, c0, c1, c2, c3, hBe, hlt⟩ := HS.out _ hB2
  go_wp2_with fail
  refine (brief_is a b 0 true _ hP hBr).mono ?_
  rintro e x3 ⟨rfl, hb3⟩
  have zz3 := hb3.size
  try simp at zz3
  have hB3 : Below u.heap.size u x3 := (by (repeat (first | (with_reducible refine Below.drew ?_) | (with_reducible refine below_drewN ?_ _) | (with_reducible refine Below.alloc ?_ (by first | omega | (simp; done) | (simp; omega) | (simp at *; omega)) _) | (with_reducible refine Below.setCell ?_ (by first | omega | (simp; done) | (simp; omega) | (simp at *; omega)) _) | (with_reducible exact Below.refl _ _) | (with_reducible assumption) | (with_reducible refine Below.trans ?_ (Below.mono (by assumption) (by first | omega | (simp; done) | (simp; omega) | (simp at *; omega)))))))
  have zu3 := hB3.size
  clear hb3 hB2 zz2 zu2 t0 t1 c0 c1 c2 c3 hBe hlt
  obtain ⟨t0, t1, c0, c1, c2, c3, hBe, hlt⟩ := HS.out _ hB3
  go_upto_region 5 with (fail)
  refine wp_region_held_drew (S := (fun w' => w'.cell? ⟨w.heap.size, 0, none⟩ = some (.int .i64 m) ∧ w'.cell? ⟨w.heap.size, 1, none⟩ = some (.slice A n cap) ∧ w'.cell? ⟨w.heap.size + 1, 0, none⟩ = some (.int .i64 l) ∧ w'.cell? ⟨w.heap.size + 1, 1, none⟩ = some (.int .i64 a) ∧ w'.cell? ⟨w.heap.size + 1, 2, none⟩ = some (.int .i64 b) ∧ w'.cell? ⟨w.heap.size + 1, 3, none⟩ = some (.bool s))) (by kernel_rfl) (by simp [go_sem, World.cell?_alloc_past, *]) (fun hHeld => ?_)
  refine tkH 0 ⟨some 24, _, _, _, _, _⟩ ?_ rfl ?_ (by assumption) ?_
  rotate_left
  · (intro w hSw; (try dsimp only at hSw); go_simp; all_goals with_reducible rfl)
  try simp only [Act.put, sA, sB, sC]
  refine tkH 2 ⟨some 26, _, _, _, _, _⟩ ?_ rfl ?_ (by assumption) ?_
  rotate_left
  · (intro w hSw; (try dsimp only at hSw); go_simp; all_goals with_reducible rfl)
  try simp only [Act.put, sA, sB, sC]
  refine wpAnyH_ready (rs := [1]) (by kernel_rfl) (by simp) ?_
  refine AllReadyH.cons rfl (fun K hK => ?_) AllReadyH.nil
  go_simp
  refine (own_is m L A n cap _ hn (by omega) (Lib.hid (HA.out _ (by (repeat (first | (with_reducible refine Below.drew ?_) | (with_reducible refine below_drewN ?_ _) | (with_reducible refine Below.alloc ?_ (by first | omega | (simp; done) | (simp; omega) | (simp at *; omega)) _) | (with_reducible refine Below.setCell ?_ (by first | omega | (simp; done) | (simp; omega) | (simp at *; omega)) _) | (with_reducible exact Below.refl _ _) | (with_reducible assumption) | (with_reducible refine Below.trans ?_ (Below.mono (by assumption) (by first | omega | (simp; done) | (simp; omega) | (simp at *; omega))))))))) CA).mono ?_
  rintro e x4 ⟨G5, cg5, rfl, hG5, hb4⟩
  have zz4 := hb4.size
  try simp at zz4
  have hB4 : Below u.heap.size u x4 := (by (repeat (first | (with_reducible refine Below.drew ?_) | (with_reducible refine below_drewN ?_ _) | (with_reducible refine Below.alloc ?_ (by first | omega | (simp; done) | (simp; omega) | (simp at *; omega)) _) | (with_reducible refine Below.setCell ?_ (by first | omega | (simp; done) | (simp; omega) | (simp at *; omega)) _) | (with_reducible exact Below.refl _ _) | (with_reducible assumption) | (with_reducible refine Below.trans ?_ (Below.mono (by assumption) (by first | omega | (simp; done) | (simp; omega) | (simp at *; omega)))))))
  have zu4 := hB4.size
  have HG5 := Lib.hid hG5
  clear hG5
  clear hb4 hB3 zz3 zu3 t0 t1 c0 c1 c2 c3 hBe hlt
  obtain ⟨t0, t1, c0, c1, c2, c3, hBe, hlt⟩ := HS.out _ hB4
  go_wp2_with fail
  refine hK.out _ _ (by simp [go_sem, World.cell?_alloc_past, *]) (fun hHeld => ?_)
  clear hK K
  try simp only [Act.put, sA, sB, sC]
  refine wpAnyH_ready (rs := [3]) (by kernel_rfl) (by simp) ?_
  refine AllReadyH.cons rfl (fun K hK => ?_) AllReadyH.nil
  go_simp
  refine (SlackWindows_few m L G5 cg5 n N l a b s V _ hn (by omega) HG5 hAE hN hV q).mono ?_
  rintro e x5 ⟨GP, cP, rfl, hSP, hNP, hb5⟩
  have zz5 := hb5.size
  try simp at zz5
  have hB5 : Below u.heap.size u x5 := (by (repeat (first | (with_reducible refine Below.drew ?_) | (with_reducible refine below_drewN ?_ _) | (with_reducible refine Below.alloc ?_ (by first | omega | (simp; done) | (simp; omega) | (simp at *; omega)) _) | (with_reducible refine Below.setCell ?_ (by first | omega | (simp; done) | (simp; omega) | (simp at *; omega)) _) | (with_reducible exact Below.refl _ _) | (with_reducible assumption) | (with_reducible refine Below.trans ?_ (Below.mono (by assumption) (by first | omega | (simp; done) | (simp; omega) | (simp at *; omega)))))))
  have zu5 := hB5.size
  have GP5 := Lib.hid hSP
  clear hSP hNP
  clear hb5 hB4 zz4 zu4 t0 t1 c0 c1 c2 c3 hBe hlt
  obtain ⟨t0, t1, c0, c1, c2, c3, hBe, hlt⟩ := HS.out _ hB5
  go_wp2_with fail
  refine hK.out _ _ (by simp [go_sem, World.cell?_alloc_past, *]) (fun hHeld => ?_)
  clear hK K
  try simp only [Act.put, sA, sB, sC]
  refine tkH 4 ⟨some 23, _, _, _, _, _⟩ ?_ rfl ?_ (by assumption) ?_
  rotate_left
  · (intro w hSw; (try dsimp only at hSw); go_simp; all_goals with_reducible rfl)
  try simp only [Act.put, sA, sB, sC]
  refine tkH 5 ⟨some 28, _, _, _, _, _⟩ ?_ rfl ?_ (by assumption) ?_
  rotate_left
  · (intro w hSw; (try dsimp only at hSw); go_simp; all_goals with_reducible rfl)
  try simp only [Act.put, sA, sB, sC]
  refine tkH 6 ⟨some 29, _, _, _, _, _⟩ ?_ rfl ?_ (by assumption) ?_
  rotate_left
  · (intro w hSw; (try dsimp only at hSw); go_simp; all_goals with_reducible rfl)
  try simp only [Act.put, sA, sB, sC]
  refine tkH 7 ⟨some 5, _, _, _, _, _⟩ ?_ rfl ?_ (by assumption) ?_
  rotate_left
  · (intro w hSw; (try dsimp only at hSw); go_simp; all_goals with_reducible rfl)
  try simp only [Act.put, sA, sB, sC]
  refine tkH 8 ⟨some 6, _, _, _, _, _⟩ ?_ rfl ?_ (by assumption) ?_
  rotate_left
  · (intro w hSw; (try dsimp only at hSw); go_simp; all_goals with_reducible rfl)
  try simp only [Act.put, sA, sB, sC]
  refine wpAnyH_done (by kernel_rfl) ?_ _
  go_upto_region 6 with (fail)
  refine wp_region_held_drew (S := (fun w' => w'.cell? ⟨w.heap.size, 0, none⟩ = some (.int .i64 m) ∧ w'.cell? ⟨w.heap.size, 1, none⟩ = some (.slice A n cap) ∧ w'.cell? ⟨w.heap.size + 1, 0, none⟩ = some (.int .i64 l) ∧ w'.cell? ⟨w.heap.size + 1, 1, none⟩ = some (.int .i64 a) ∧ w'.cell? ⟨w.heap.size + 1, 2, none⟩ = some (.int .i64 b) ∧ w'.cell? ⟨w.heap.size + 1, 3, none⟩ = some (.bool s))) (by kernel_rfl) (by simp [go_sem, World.cell?_alloc_past, *]) (fun hHeld => ?_)
  refine tkH 0 ⟨some 31, _, _, _, _, _⟩ ?_ rfl ?_ (by assumption) ?_
  rotate_left
  · (intro w hSw; (try dsimp only at hSw); go_simp; all_goals with_reducible rfl)
  try simp only [Act.put, sA, sB, sC]
  refine tkH 2 ⟨some 33, _, _, _, _, _⟩ ?_ rfl ?_ (by assumption) ?_
  rotate_left
  · (intro w hSw; (try dsimp only at hSw); go_simp; all_goals with_reducible rfl)
  try simp only [Act.put, sA, sB, sC]
  refine tkH 3 ⟨some 34, _, _, _, _, _⟩ ?_ rfl ?_ (by assumption) ?_
  rotate_left
  · (intro w hSw; (try dsimp only at hSw); go_simp; all_goals with_reducible rfl)
  try simp only [Act.put, sA, sB, sC]
  refine wpAnyH_ready (rs := [1]) (by kernel_rfl) (by simp) ?_
  refine AllReadyH.cons rfl (fun K hK => ?_) AllReadyH.nil
  go_simp
  refine (own_is m L A n cap _ hn (by omega) (Lib.hid (HA.out _ (by (repeat (first | (with_reducible refine Below.drew ?_) | (with_reducible refine below_drewN ?_ _) | (with_reducible refine Below.alloc ?_ (by first | omega | (simp; done) | (simp; omega) | (simp at *; omega)) _) | (with_reducible refine Below.setCell ?_ (by first | omega | (simp; done) | (simp; omega) | (simp at *; omega)) _) | (with_reducible exact Below.refl _ _) | (with_reducible assumption) | (with_reducible refine Below.trans ?_ (Below.mono (by assumption) (by first | omega | (simp; done) | (simp; omega) | (simp at *; omega))))))))) CA).mono ?_
  rintro e x6 ⟨G6, cg6, rfl, hG6, hb6⟩
  have zz6 := hb6.size
  try simp at zz6
  have hc6 : Below x5.heap.size x5 x6 := (by (repeat (first | (with_reducible refine Below.drew ?_) | (with_reducible refine below_drewN ?_ _) | (with_reducible refine Below.alloc ?_ (by first | omega | (simp; done) | (simp; omega) | (simp at *; omega)) _) | (with_reducible refine Below.setCell ?_ (by first | omega | (simp; done) | (simp; omega) | (simp at *; omega)) _) | (with_reducible exact Below.refl _ _) | (with_reducible assumption) | (with_reducible refine Below.trans ?_ (Below.mono (by assumption) (by first | omega | (simp; done) | (simp; omega) | (simp at *; omega)))))))
  have hB6 : Below u.heap.size u x6 := (by (repeat (first | (with_reducible refine Below.drew ?_) | (with_reducible refine below_drewN ?_ _) | (with_reducible refine Below.alloc ?_ (by first | omega | (simp; done) | (simp; omega) | (simp at *; omega)) _) | (with_reducible refine Below.setCell ?_ (by first | omega | (simp; done) | (simp; omega) | (simp at *; omega)) _) | (with_reducible exact Below.refl _ _) | (with_reducible assumption) | (with_reducible refine Below.trans ?_ (Below.mono (by assumption) (by first | omega | (simp; done) | (simp; omega) | (simp at *; omega)))))))
  have zu6 := hB6.size
  have HG6 := Lib.hid hG6
  clear hG6
  have GP6 := Lib.hid (GP5.out.below hc6)
  clear hc6 GP5
  clear hb6 hB5 zz5 zu5 t0 t1 c0 c1 c2 c3 hBe hlt
  obtain ⟨t0, t1, c0, c1, c2, c3, hBe, hlt⟩ := HS.out _ hB6
  go_wp2_with fail
  refine hK.out _ _ (by simp [go_sem, World.cell?_alloc_past, *]) (fun hHeld => ?_)
  clear hK K
  try simp only [Act.put, sA, sB, sC]
  refine wpAnyH_ready (rs := [4]) (by kernel_rfl) (by simp) ?_
  refine AllReadyH.cons rfl (fun K hK => ?_) AllReadyH.nil
  go_simp
  refine (Highest_good m L G6 cg6 n a b r _ hn (by omega) HG6 hHE hr).mono ?_
  rintro e x7 ⟨rfl, hb7⟩
  have zz7 := hb7.size
  try simp at zz7
  have hc7 : Below x6.heap.size x6 x7 := (by (repeat (first | (with_reducible refine Below.drew ?_) | (with_reducible refine below_drewN ?_ _) | (with_reducible refine Below.alloc ?_ (by first | omega | (simp; done) | (simp; omega) | (simp at *; omega)) _) | (with_reducible refine Below.setCell ?_ (by first | omega | (simp; done) | (simp; omega) | (simp at *; omega)) _) | (with_reducible exact Below.refl _ _) | (with_reducible assumption) | (with_reducible refine Below.trans ?_ (Below.mono (by assumption) (by first | omega | (simp; done) | (simp; omega) | (simp at *; omega)))))))
  have hB7 : Below u.heap.size u x7 := (by (repeat (first | (with_reducible refine Below.drew ?_) | (with_reducible refine below_drewN ?_ _) | (with_reducible refine Below.alloc ?_ (by first | omega | (simp; done) | (simp; omega) | (simp at *; omega)) _) | (with_reducible refine Below.setCell ?_ (by first | omega | (simp; done) | (simp; omega) | (simp at *; omega)) _) | (with_reducible exact Below.refl _ _) | (with_reducible assumption) | (with_reducible refine Below.trans ?_ (Below.mono (by assumption) (by first | omega | (simp; done) | (simp; omega) | (simp at *; omega)))))))
  have zu7 := hB7.size
  have GP7 := Lib.hid (GP6.out.below hc7)
  clear hc7 GP6
  clear hb7 hB6 zz6 zu6 t0 t1 c0 c1 c2 c3 hBe hlt
  obtain ⟨t0, t1, c0, c1, c2, c3, hBe, hlt⟩ := HS.out _ hB7
  go_wp2_with fail
  refine hK.out _ _ (by simp [go_sem, World.cell?_alloc_past, *]) (fun hHeld => ?_)
  clear hK K
  try simp only [Act.put, sA, sB, sC]
  refine tkH 5 ⟨some 30, _, _, _, _, _⟩ ?_ rfl ?_ (by assumption) ?_
  rotate_left
  · (intro w hSw; (try dsimp only at hSw); go_simp; all_goals with_reducible rfl)
  try simp only [Act.put, sA, sB, sC]
  refine tkH 6 ⟨some 36, _, _, _, _, _⟩ ?_ rfl ?_ (by assumption) ?_
  rotate_left
  · (intro w hSw; (try dsimp only at hSw); go_simp; all_goals with_reducible rfl)
  try simp only [Act.put, sA, sB, sC]
  refine tkH 7 ⟨some 37, _, _, _, _, _⟩ ?_ rfl ?_ (by assumption) ?_
  rotate_left
  · (intro w hSw; (try dsimp only at hSw); go_simp; all_goals with_reducible rfl)
  try simp only [Act.put, sA, sB, sC]
  refine tkH 8 ⟨some 7, _, _, _, _, _⟩ ?_ rfl ?_ (by assumption) ?_
  rotate_left
  · (intro w hSw; (try dsimp only at hSw); go_simp; all_goals with_reducible rfl)
  try simp only [Act.put, sA, sB, sC]
  refine tkH 9 ⟨some 8, _, _, _, _, _⟩ ?_ rfl ?_ (by assumption) ?_
  rotate_left
  · (intro w hSw; (try dsimp only at hSw); go_simp; all_goals with_reducible rfl)
  try simp only [Act.put, sA, sB, sC]
  refine wpAnyH_done (by kernel_rfl) ?_ _
  go_wp2_with fail
  refine (refTide_is m L A cap n 0 _ hn (by omega) (Lib.hid (HA.out _ (by (repeat (first | (with_reducible refine Below.drew ?_) | (with_reducible refine below_drewN ?_ _) | (with_reducible refine Below.alloc ?_ (by first | omega | (simp; done) | (simp; omega) | (simp at *; omega)) _) | (with_reducible refine Below.setCell ?_ (by first | omega | (simp; done) | (simp; omega) | (simp at *; omega)) _) | (with_reducible exact Below.refl _ _) | (with_reducible assumption) | (with_reducible refine Below.trans ?_ (Below.mono (by assumption) (by first | omega | (simp; done) | (simp; omega) | (simp at *; omega))))))))) hT).mono ?_
  rintro e x8 ⟨rfl, hb8⟩
  have zz8 := hb8.size
  try simp at zz8
  have hc8 : Below x7.heap.size x7 x8 := (by (repeat (first | (with_reducible refine Below.drew ?_) | (with_reducible refine below_drewN ?_ _) | (with_reducible refine Below.alloc ?_ (by first | omega | (simp; done) | (simp; omega) | (simp at *; omega)) _) | (with_reducible refine Below.setCell ?_ (by first | omega | (simp; done) | (simp; omega) | (simp at *; omega)) _) | (with_reducible exact Below.refl _ _) | (with_reducible assumption) | (with_reducible refine Below.trans ?_ (Below.mono (by assumption) (by first | omega | (simp; done) | (simp; omega) | (simp at *; omega)))))))
  have hB8 : Below u.heap.size u x8 := (by (repeat (first | (with_reducible refine Below.drew ?_) | (with_reducible refine below_drewN ?_ _) | (with_reducible refine Below.alloc ?_ (by first | omega | (simp; done) | (simp; omega) | (simp at *; omega)) _) | (with_reducible refine Below.setCell ?_ (by first | omega | (simp; done) | (simp; omega) | (simp at *; omega)) _) | (with_reducible exact Below.refl _ _) | (with_reducible assumption) | (with_reducible refine Below.trans ?_ (Below.mono (by assumption) (by first | omega | (simp; done) | (simp; omega) | (simp at *; omega)))))))
  have zu8 := hB8.size
  have GP8 := Lib.hid (GP7.out.below hc8)
  clear hc8 GP7
  clear hb8 hB7 zz7 zu7 t0 t1 c0 c1 c2 c3 hBe hlt
  obtain ⟨t0, t1, c0, c1, c2, c3, hBe, hlt⟩ := HS.out _ hB8
  go_wp2_with fail
  refine (refSpan_is a b 0 _ hP).mono ?_
  rintro e x9 ⟨rfl, hb9⟩
  have zz9 := hb9.size
  try simp at zz9
  have hc9 : Below x8.heap.size x8 x9 := (by (repeat (first | (with_reducible refine Below.drew ?_) | (with_reducible refine below_drewN ?_ _) | (with_reducible refine Below.alloc ?_ (by first | omega | (simp; done) | (simp; omega) | (simp at *; omega)) _) | (with_reducible refine Below.setCell ?_ (by first | omega | (simp; done) | (simp; omega) | (simp at *; omega)) _) | (with_reducible exact Below.refl _ _) | (with_reducible assumption) | (with_reducible refine Below.trans ?_ (Below.mono (by assumption) (by first | omega | (simp; done) | (simp; omega) | (simp at *; omega)))))))
  have hB9 : Below u.heap.size u x9 := (by (repeat (first | (with_reducible refine Below.drew ?_) | (with_reducible refine below_drewN ?_ _) | (with_reducible refine Below.alloc ?_ (by first | omega | (simp; done) | (simp; omega) | (simp at *; omega)) _) | (with_reducible refine Below.setCell ?_ (by first | omega | (simp; done) | (simp; omega) | (simp at *; omega)) _) | (with_reducible exact Below.refl _ _) | (with_reducible assumption) | (with_reducible refine Below.trans ?_ (Below.mono (by assumption) (by first | omega | (simp; done) | (simp; omega) | (simp at *; omega)))))))
  have zu9 := hB9.size
  have GP9 := Lib.hid (GP8.out.below hc9)
  clear hc9 GP8
  clear hb9 hB8 zz8 zu8 t0 t1 c0 c1 c2 c3 hBe hlt
  obtain ⟨t0, t1, c0, c1, c2, c3, hBe, hlt⟩ := HS.out _ hB9
  go_wp2_with fail
  refine (refHigh_is m L A cap n a b r _ hn h10 HW m0 m1 a0 ab b1 (Lib.hid (HA.out _ (by (repeat (first | (with_reducible refine Below.drew ?_) | (with_reducible refine below_drewN ?_ _) | (with_reducible refine Below.alloc ?_ (by first | omega | (simp; done) | (simp; omega) | (simp at *; omega)) _) | (with_reducible refine Below.setCell ?_ (by first | omega | (simp; done) | (simp; omega) | (simp at *; omega)) _) | (with_reducible exact Below.refl _ _) | (with_reducible assumption) | (with_reducible refine Below.trans ?_ (Below.mono (by assumption) (by first | omega | (simp; done) | (simp; omega) | (simp at *; omega))))))))) hr).mono ?_
  rintro e x10 ⟨rfl, hb10⟩
  have zz10 := hb10.size
  try simp at zz10
  have hc10 : Below x9.heap.size x9 x10 := (by (repeat (first | (with_reducible refine Below.drew ?_) | (with_reducible refine below_drewN ?_ _) | (with_reducible refine Below.alloc ?_ (by first | omega | (simp; done) | (simp; omega) | (simp at *; omega)) _) | (with_reducible refine Below.setCell ?_ (by first | omega | (simp; done) | (simp; omega) | (simp at *; omega)) _) | (with_reducible exact Below.refl _ _) | (with_reducible assumption) | (with_reducible refine Below.trans ?_ (Below.mono (by assumption) (by first | omega | (simp; done) | (simp; omega) | (simp at *; omega)))))))
  have hB10 : Below u.heap.size u x10 := (by (repeat (first | (with_reducible refine Below.drew ?_) | (with_reducible refine below_drewN ?_ _) | (with_reducible refine Below.alloc ?_ (by first | omega | (simp; done) | (simp; omega) | (simp at *; omega)) _) | (with_reducible refine Below.setCell ?_ (by first | omega | (simp; done) | (simp; omega) | (simp at *; omega)) _) | (with_reducible exact Below.refl _ _) | (with_reducible assumption) | (with_reducible refine Below.trans ?_ (Below.mono (by assumption) (by first | omega | (simp; done) | (simp; omega) | (simp at *; omega)))))))
  have zu10 := hB10.size
  have GP10 := Lib.hid (GP9.out.below hc10)
  clear hc10 GP9
  clear hb10 hB9 zz9 zu9 t0 t1 c0 c1 c2 c3 hBe hlt
  obtain ⟨t0, t1, c0, c1, c2, c3, hBe, hlt⟩ := HS.out _ hB10
  go_wp2_with fail
  refine (askErr_is m L A cap n l a b 0 s _ hn (by omega) (Lib.hid (HA.out _ (by (repeat (first | (with_reducible refine Below.drew ?_) | (with_reducible refine below_drewN ?_ _) | (with_reducible refine Below.alloc ?_ (by first | omega | (simp; done) | (simp; omega) | (simp at *; omega)) _) | (with_reducible refine Below.setCell ?_ (by first | omega | (simp; done) | (simp; omega) | (simp at *; omega)) _) | (with_reducible exact Below.refl _ _) | (with_reducible assumption) | (with_reducible refine Below.trans ?_ (Below.mono (by assumption) (by first | omega | (simp; done) | (simp; omega) | (simp at *; omega))))))))) hAE).mono ?_
  rintro e x11 ⟨rfl, hb11⟩
  have zz11 := hb11.size
  try simp at zz11
  have hc11 : Below x10.heap.size x10 x11 := (by (repeat (first | (with_reducible refine Below.drew ?_) | (with_reducible refine below_drewN ?_ _) | (with_reducible refine Below.alloc ?_ (by first | omega | (simp; done) | (simp; omega) | (simp at *; omega)) _) | (with_reducible refine Below.setCell ?_ (by first | omega | (simp; done) | (simp; omega) | (simp at *; omega)) _) | (with_reducible exact Below.refl _ _) | (with_reducible assumption) | (with_reducible refine Below.trans ?_ (Below.mono (by assumption) (by first | omega | (simp; done) | (simp; omega) | (simp at *; omega)))))))
  have hB11 : Below u.heap.size u x11 := (by (repeat (first | (with_reducible refine Below.drew ?_) | (with_reducible refine below_drewN ?_ _) | (with_reducible refine Below.alloc ?_ (by first | omega | (simp; done) | (simp; omega) | (simp at *; omega)) _) | (with_reducible refine Below.setCell ?_ (by first | omega | (simp; done) | (simp; omega) | (simp at *; omega)) _) | (with_reducible exact Below.refl _ _) | (with_reducible assumption) | (with_reducible refine Below.trans ?_ (Below.mono (by assumption) (by first | omega | (simp; done) | (simp; omega) | (simp at *; omega)))))))
  have zu11 := hB11.size
  have GP11 := Lib.hid (GP10.out.below hc11)
  clear hc11 GP10
  clear hb11 hB10 zz10 zu10 t0 t1 c0 c1 c2 c3 hBe hlt
  obtain ⟨t0, t1, c0, c1, c2, c3, hBe, hlt⟩ := HS.out _ hB11
  go_wp2_with fail
  refine (refSlackW_v m L A cap n N l a b s V _ hn h10 HW m0 m1 l0 l1 a0 ab b1 hs3 (Lib.hid (HA.out _ (by (repeat (first | (with_reducible refine Below.drew ?_) | (with_reducible refine below_drewN ?_ _) | (with_reducible refine Below.alloc ?_ (by first | omega | (simp; done) | (simp; omega) | (simp at *; omega)) _) | (with_reducible refine Below.setCell ?_ (by first | omega | (simp; done) | (simp; omega) | (simp at *; omega)) _) | (with_reducible exact Below.refl _ _) | (with_reducible assumption) | (with_reducible refine Below.trans ?_ (Below.mono (by assumption) (by first | omega | (simp; done) | (simp; omega) | (simp at *; omega))))))))) hN hV).mono ?_
  rintro e x12 ⟨GR, cR, rfl, hSR, hNR, hb12⟩
  have zz12 := hb12.size
  try simp at zz12
  have hc12 : Below x11.heap.size x11 x12 := (by (repeat (first | (with_reducible refine Below.drew ?_) | (with_reducible refine below_drewN ?_ _) | (with_reducible refine Below.alloc ?_ (by first | omega | (simp; done) | (simp; omega) | (simp at *; omega)) _) | (with_reducible refine Below.setCell ?_ (by first | omega | (simp; done) | (simp; omega) | (simp at *; omega)) _) | (with_reducible exact Below.refl _ _) | (with_reducible assumption) | (with_reducible refine Below.trans ?_ (Below.mono (by assumption) (by first | omega | (simp; done) | (simp; omega) | (simp at *; omega)))))))
  have hB12 : Below u.heap.size u x12 := (by (repeat (first | (with_reducible refine Below.drew ?_) | (with_reducible refine below_drewN ?_ _) | (with_reducible refine Below.alloc ?_ (by first | omega | (simp; done) | (simp; omega) | (simp at *; omega)) _) | (with_reducible refine Below.setCell ?_ (by first | omega | (simp; done) | (simp; omega) | (simp at *; omega)) _) | (with_reducible exact Below.refl _ _) | (with_reducible assumption) | (with_reducible refine Below.trans ?_ (Below.mono (by assumption) (by first | omega | (simp; done) | (simp; omega) | (simp at *; omega)))))))
  have zu12 := hB12.size
  have HSR := Lib.hid hSR
  clear hSR hNR
  have GP12 := Lib.hid (GP11.out.below hc12)
  clear hc12 GP11
  clear hb12 hB11 zz11 zu11 t0 t1 c0 c1 c2 c3 hBe hlt
  obtain ⟨t0, t1, c0, c1, c2, c3, hBe, hlt⟩ := HS.out _ hB12
  go_wp2_with fail
  refine (ranges_t V GP GR cP cR _ _ (Lib.hid rfl) (by omega) GP12.out HSR.out).mono ?_
  rintro e x99 ⟨rfl, hb99⟩
  have hB99 : Below w.heap.size w x99 := hBe.trans (hb99.mono hBe.size)
  clear hb99
  go_wp2
  go_ret
  exact ⟨rfl, hB99⟩
theorem siteSlackWindows_any (m : Int) (L : List Wv) (A : Option Addr) (cap : Nat) (l a b : Int) (s : Bool) (w : World) (hl : L.length ≤ 9223372036854775807) (CA0 : A = none → cap = 0) (HL : SlRows wvV 3 w A L) :
    Calls Tryz.prog 3 #[.agg #[.int .i64 m, .slice A L.length cap], .agg #[.int .i64 l, .int .i64 a, .int .i64 b, .bool s]] w fun e w' => e = .returned (.bool true) ∧ Below w.heap.size w w' := by
  have CA : A = none → L.length = 0 ∧ cap = 0 := fun h => ⟨by rcases HL with h1 | ⟨b, off, h1, _⟩ <;> simp_all, CA0 h⟩
  obtain ⟨n, hn⟩ : ∃ n, Hid (n = L.length) := ⟨_, Lib.hid rfl⟩
  have HR : Hid (∀ w' : World, Below w.heap.size w w' → SlRows wvV 3 w' A L) := Lib.hid fun w' hB => HL.below hB
  rw [← hn.out] at CA hl ⊢
  have CA' := Lib.hid CA
  cases hF : fewB n with
  | false => exact slw_few m l a b s A n cap w hl (Lib.hid hF)
  | true =>
    have h12 : n ≤ 12 := by unfold fewB at hF; simp at hF; omega
    obtain ⟨P, hP⟩ : ∃ P, Hid (spnE a b = P) := ⟨_, Lib.hid rfl⟩
    cases hBr : (P != 0 || decide (b - a < 200)) with
    | false => exact slw_brief m l a b s L A n cap w hn h12 (Lib.hid hF) HR CA' P hP (Lib.hid hBr)
    | true =>
      obtain ⟨F, hT⟩ : ∃ F, Hid (tidE m L = F) := ⟨_, Lib.hid rfl⟩
      rcases ez2 F with ⟨hz0, hzb⟩ | ⟨hz0, hzb⟩
      · have hT0 : Hid (tidE m L = 0) := Lib.hid (by rw [hT.out, hz0.out])
        obtain ⟨E, hAE⟩ : ∃ E, Hid (askE m L l a b = E) := ⟨_, Lib.hid rfl⟩
        rcases ez2 P with ⟨pz0, pzb⟩ | ⟨pz0, pzb⟩
        · have hP0 : Hid (spnE a b = 0) := Lib.hid (by rw [hP.out, pz0.out])
          rw [pz0.out] at hBr
          rcases inB_cases l 0 10000000 with h1 | h1
          · have hA0 : Hid (askE m L l a b = 0) := Lib.hid (by unfold askE; rw [hT0.out, hP0.out, rngE_t h1]; rfl)
            obtain ⟨l0, l1⟩ := inB_iff.1 h1
            obtain ⟨a0, ab, b1, hs3⟩ := spnE_ok hP0.out
            obtain ⟨N, hN⟩ : ∃ N : Nat, Hid ((N : Int) = b - a + 1) := ⟨(b - a + 1).toNat, Lib.hid (by omega)⟩
            obtain ⟨V, hV⟩ : ∃ V, Hid (rwL a (fun k => slkG m L l (lstV s) (a + (k : Int))) N = V) := ⟨_, Lib.hid rfl⟩
            by_cases q : V.length ≤ 60
            · exact slw_fine m l a b s L A n cap w hn h12 (Lib.hid hF) HR CA' hT0 hP0 hA0 (Lib.hid hBr) l0 l1 N hN V hV q
            · exact slw_many m l a b s L A n cap w hn h12 (Lib.hid hF) HR CA' hT0 hP0 hA0 (Lib.hid hBr) l0 l1 N hN V hV (by omega)
          · have hA2 : Hid (askE m L l a b = 2) := Lib.hid (by unfold askE; rw [hT0.out, rngE_f h1]; rfl)
            exact slw_l m l a b s L A n cap w hn h12 (Lib.hid hF) HR CA' hT0 hP0 hA2 (Lib.hid hBr)
        · have hzE : (E != 0) = true := by
            rw [← hAE.out]; unfold askE; rw [hT0.out, hP.out]
            rcases inB_cases l 0 10000000 with h1 | h1
            · rw [rngE_t h1]; unfold firE firE firE firE; simpa using pz0.out
            · rw [rngE_f h1]; rfl
          exact slw_p m l a b s L A n cap w hn h12 (Lib.hid hF) HR CA' P E hT0 hP pzb hAE hzE (Lib.hid hBr)
      · exact slw_t m l a b s L A n cap w hn h12 (Lib.hid hF) HR CA' F P hT hzb hP (Lib.hid hBr)
end Go.Proofs.YtojaompfffpofaaGreat
