import Derived.Test.YtojaompfffpofaaGreatZUSLawSlw
import Derived.Test.YtojaompfffpofaaGreatSIns
import Derived.Outline
namespace Go.Proofs.YtojaompfffpofaaGreat
open Go.ChangeShapes Go.WideShapes Go.ChangeAt Go.RowKit
set_option linter.unusedVariables false
set_option linter.unusedSimpArgs false
attribute [local go_sem ↓] Go.wp_at_zero Go.wp_at_succ
set_option maxRecDepth 100000 in
set_option maxHeartbeats 1000000 in
theorem sur_few (m l a b more : Int) (s : Bool) (A : Option Addr) (n cap : Nat) (w : World) (hl : n ≤ 9223372036854775807) (hF : Hid (fewB n = false)) :
    Calls Tryz.prog 4 #[.agg #[.int .i64 m, .slice A n cap], .agg #[.int .i64 l, .int .i64 a, .int .i64 b, .bool s], .int .i64 more] w fun e w' => e = .returned (.bool true) ∧ Below w.heap.size w w' := by
  go_enter Tryz.func4, Tryz.ntmps4
  go_upto_region 1 with (fail)
  refine wp_world (AskS m A n cap l a b s w) ⟨by simp [go_sem, World.cell?_alloc_past], by simp [go_sem, World.cell?_alloc_past], by simp [go_sem, World.cell?_alloc_past], by simp [go_sem, World.cell?_alloc_past], by simp [go_sem, World.cell?_alloc_past], by simp [go_sem, World.cell?_alloc_past], (by (repeat (first | (with_reducible refine Below.drew ?_) | (with_reducible refine below_drewN ?_ _) | (with_reducible refine Below.alloc ?_ (by first | omega | (simp; done) | (simp; omega) | (simp at *; omega)) _) | (with_reducible refine Below.setCell ?_ (by first | omega | (simp; done) | (simp; omega) | (simp at *; omega)) _) | (with_reducible exact Below.refl _ _) | (with_reducible assumption) | (with_reducible refine Below.trans ?_ (Below.mono (by assumption) (by first | omega | (simp; done) | (simp; omega) | (simp at *; omega))))))), by simp⟩ (fun u hu => ?_)
  have HU := Lib.hid hu
  have HS : Hid (∀ x, Below u.heap.size u x → AskS m A n cap l a b s w x) := Lib.hid fun x hx => HU.out.below hx
  clear hu
  go_wp2_with fail
  refine (awake_any _).mono ?_
  rintro e x1 ⟨rfl, hb1⟩
  have zz1 := hb1.size
  try simp at zz1
  have hc1 : Below u.heap.size u x1 := (by (repeat (first | (with_reducible refine Below.drew ?_) | (with_reducible refine below_drewN ?_ _) | (with_reducible refine Below.alloc ?_ (by first | omega | (simp; done) | (simp; omega) | (simp at *; omega)) _) | (with_reducible refine Below.setCell ?_ (by first | omega | (simp; done) | (simp; omega) | (simp at *; omega)) _) | (with_reducible exact Below.refl _ _) | (with_reducible assumption) | (with_reducible refine Below.trans ?_ (Below.mono (by assumption) (by first | omega | (simp; done) | (simp; omega) | (simp at *; omega)))))))
  have hB1 : Below u.heap.size u x1 := hc1
  have zu1 := hB1.size
  clear hb1  
  obtain ⟨t0, t1, c0, c1, c2, c3, hBe, hlt⟩ := HS.out _ hB1
  go_wp2_with fail
  refine (few_is m A n cap false _ (by omega) hF).mono ?_
  rintro e x2 ⟨rfl, hb2⟩
  have zz2 := hb2.size
  try simp at zz2
  have hc2 : Below x1.heap.size x1 x2 := (by (repeat (first | (with_reducible refine Below.drew ?_) | (with_reducible refine below_drewN ?_ _) | (with_reducible refine Below.alloc ?_ (by first | omega | (simp; done) | (simp; omega) | (simp at *; omega)) _) | (with_reducible refine Below.setCell ?_ (by first | omega | (simp; done) | (simp; omega) | (simp at *; omega)) _) | (with_reducible exact Below.refl _ _) | (with_reducible assumption) | (with_reducible refine Below.trans ?_ (Below.mono (by assumption) (by first | omega | (simp; done) | (simp; omega) | (simp at *; omega)))))))
  have hB2 : Below u.heap.size u x2 := hB1.trans (hc2.mono hB1.size)
  have zu2 := hB2.size
  clear hb2 hB1 zz1 zu1 hc1 t0 t1 c0 c1 c2 c3 hBe hlt 
  obtain ⟨t0, t1, c0, c1, c2, c3, hBe, hlt⟩ := HS.out _ hB2
  go_wp2
  go_ret
  exact ⟨rfl, hBe⟩
set_option maxRecDepth 100000 in
set_option maxHeartbeats 4000000 in
theorem sur_brief (m l a b more : Int) (s : Bool) (L : List Wv) (A : Option Addr) (n cap : Nat) (w : World) (hn : Hid (n = L.length)) (hl : n ≤ 12) (hF : Hid (fewB n = true)) (HR : Hid (∀ w' : World, Below w.heap.size w w' → SlRows wvV 3 w' A L)) (CA : Hid (A = none → n = 0 ∧ cap = 0)) (P : Int) (hP : Hid (spnE a b = P)) (hBr : Hid ((P != 0 || decide (b - a < 200)) = false)) :
    Calls Tryz.prog 4 #[.agg #[.int .i64 m, .slice A n cap], .agg #[.int .i64 l, .int .i64 a, .int .i64 b, .bool s], .int .i64 more] w fun e w' => e = .returned (.bool true) ∧ Below w.heap.size w w' := by
  go_enter Tryz.func4, Tryz.ntmps4
  go_upto_region 1 with (fail)
  refine wp_world (AskS m A n cap l a b s w) ⟨by simp [go_sem, World.cell?_alloc_past], by simp [go_sem, World.cell?_alloc_past], by simp [go_sem, World.cell?_alloc_past], by simp [go_sem, World.cell?_alloc_past], by simp [go_sem, World.cell?_alloc_past], by simp [go_sem, World.cell?_alloc_past], (by (repeat (first | (with_reducible refine Below.drew ?_) | (with_reducible refine below_drewN ?_ _) | (with_reducible refine Below.alloc ?_ (by first | omega | (simp; done) | (simp; omega) | (simp at *; omega)) _) | (with_reducible refine Below.setCell ?_ (by first | omega | (simp; done) | (simp; omega) | (simp at *; omega)) _) | (with_reducible exact Below.refl _ _) | (with_reducible assumption) | (with_reducible refine Below.trans ?_ (Below.mono (by assumption) (by first | omega | (simp; done) | (simp; omega) | (simp at *; omega))))))), by simp⟩ (fun u hu => ?_)
  have HU := Lib.hid hu
  have HS : Hid (∀ x, Below u.heap.size u x → AskS m A n cap l a b s w x) := Lib.hid fun x hx => HU.out.below hx
  have HA : Hid (∀ x, Below u.heap.size u x → SlRows wvV 3 x A L) := Lib.hid fun x hx => HR.out _ (HU.out.below hx).be
  clear hu
  go_wp2_with fail
  refine (awake_any _).mono ?_
  rintro e x1 ⟨rfl, hb1⟩
  have zz1 := hb1.size
  try simp at zz1
  have hc1 : Below u.heap.size u x1 := (by (repeat (first | (with_reducible refine Below.drew ?_) | (with_reducible refine below_drewN ?_ _) | (with_reducible refine Below.alloc ?_ (by first | omega | (simp; done) | (simp; omega) | (simp at *; omega)) _) | (with_reducible refine Below.setCell ?_ (by first | omega | (simp; done) | (simp; omega) | (simp at *; omega)) _) | (with_reducible exact Below.refl _ _) | (with_reducible assumption) | (with_reducible refine Below.trans ?_ (Below.mono (by assumption) (by first | omega | (simp; done) | (simp; omega) | (simp at *; omega)))))))
  have hB1 : Below u.heap.size u x1 := hc1
  have zu1 := hB1.size
  clear hb1  
  obtain ⟨t0, t1, c0, c1, c2, c3, hBe, hlt⟩ := HS.out _ hB1
  go_wp2_with fail
  refine (few_is m A n cap true _ (by omega) hF).mono ?_
  rintro e x2 ⟨rfl, hb2⟩
  have zz2 := hb2.size
  try simp at zz2
  have hc2 : Below x1.heap.size x1 x2 := (by (repeat (first | (with_reducible refine Below.drew ?_) | (with_reducible refine below_drewN ?_ _) | (with_reducible refine Below.alloc ?_ (by first | omega | (simp; done) | (simp; omega) | (simp at *; omega)) _) | (with_reducible refine Below.setCell ?_ (by first | omega | (simp; done) | (simp; omega) | (simp at *; omega)) _) | (with_reducible exact Below.refl _ _) | (with_reducible assumption) | (with_reducible refine Below.trans ?_ (Below.mono (by assumption) (by first | omega | (simp; done) | (simp; omega) | (simp at *; omega)))))))
  have hB2 : Below u.heap.size u x2 := hB1.trans (hc2.mono hB1.size)
  have zu2 := hB2.size
  clear hb2 hB1 zz1 zu1 hc1 t0 t1 c0 c1 c2 c3 hBe hlt 
  obtain ⟨t0, t1, c0, c1, c2, c3, hBe, hlt⟩ := HS.out _ hB2
  go_wp2_with fail
  refine (brief_is a b P false _ hP hBr).mono ?_
  rintro e x3 ⟨rfl, hb3⟩
  have zz3 := hb3.size
  try simp at zz3
  have hc3 : Below x2.heap.size x2 x3 := (by (repeat (first | (with_reducible refine Below.drew ?_) | (with_reducible refine below_drewN ?_ _) | (with_reducible refine Below.alloc ?_ (by first | omega | (simp; done) | (simp; omega) | (simp at *; omega)) _) | (with_reducible refine Below.setCell ?_ (by first | omega | (simp; done) | (simp; omega) | (simp at *; omega)) _) | (with_reducible exact Below.refl _ _) | (with_reducible assumption) | (with_reducible refine Below.trans ?_ (Below.mono (by assumption) (by first | omega | (simp; done) | (simp; omega) | (simp at *; omega)))))))
  have hB3 : Below u.heap.size u x3 := hB2.trans (hc3.mono hB2.size)
  have zu3 := hB3.size
  clear hb3 hB2 zz2 zu2 hc2 t0 t1 c0 c1 c2 c3 hBe hlt 
  obtain ⟨t0, t1, c0, c1, c2, c3, hBe, hlt⟩ := HS.out _ hB3
  go_wp2
  go_ret
  exact ⟨rfl, hBe⟩
set_option maxRecDepth 100000 in
set_option maxHeartbeats 4000000 in
theorem sur_ask (m l a b more : Int) (s : Bool) (L : List Wv) (A : Option Addr) (n cap : Nat) (w : World) (hn : Hid (n = L.length)) (hl : n ≤ 12) (hF : Hid (fewB n = true)) (HR : Hid (∀ w' : World, Below w.heap.size w w' → SlRows wvV 3 w' A L)) (CA : Hid (A = none → n = 0 ∧ cap = 0)) (P E : Int) (hP : Hid (spnE a b = P)) (hBr : Hid ((P != 0 || decide (b - a < 200)) = true)) (hAE : Hid (askE m L l a b = E)) (hz : (E != 0) = true) :
    Calls Tryz.prog 4 #[.agg #[.int .i64 m, .slice A n cap], .agg #[.int .i64 l, .int .i64 a, .int .i64 b, .bool s], .int .i64 more] w fun e w' => e = .returned (.bool true) ∧ Below w.heap.size w w' := by
  go_enter Tryz.func4, Tryz.ntmps4
  go_upto_region 1 with (fail)
  refine wp_world (AskS m A n cap l a b s w) ⟨by simp [go_sem, World.cell?_alloc_past], by simp [go_sem, World.cell?_alloc_past], by simp [go_sem, World.cell?_alloc_past], by simp [go_sem, World.cell?_alloc_past], by simp [go_sem, World.cell?_alloc_past], by simp [go_sem, World.cell?_alloc_past], (by (repeat (first | (with_reducible refine Below.drew ?_) | (with_reducible refine below_drewN ?_ _) | (with_reducible refine Below.alloc ?_ (by first | omega | (simp; done) | (simp; omega) | (simp at *; omega)) _) | (with_reducible refine Below.setCell ?_ (by first | omega | (simp; done) | (simp; omega) | (simp at *; omega)) _) | (with_reducible exact Below.refl _ _) | (with_reducible assumption) | (with_reducible refine Below.trans ?_ (Below.mono (by assumption) (by first | omega | (simp; done) | (simp; omega) | (simp at *; omega))))))), by simp⟩ (fun u hu => ?_)
  have HU := Lib.hid hu
  have HS : Hid (∀ x, Below u.heap.size u x → AskS m A n cap l a b s w x) := Lib.hid fun x hx => HU.out.below hx
  have HA : Hid (∀ x, Below u.heap.size u x → SlRows wvV 3 x A L) := Lib.hid fun x hx => HR.out _ (HU.out.below hx).be
  clear hu
  go_wp2_with fail
  refine (awake_any _).mono ?_
  rintro e x1 ⟨rfl, hb1⟩
  have zz1 := hb1.size
  try simp at zz1
  have hc1 : Below u.heap.size u x1 := (by (repeat (first | (with_reducible refine Below.drew ?_) | (with_reducible refine below_drewN ?_ _) | (with_reducible refine Below.alloc ?_ (by first | omega | (simp; done) | (simp; omega) | (simp at *; omega)) _) | (with_reducible refine Below.setCell ?_ (by first | omega | (simp; done) | (simp; omega) | (simp at *; omega)) _) | (with_reducible exact Below.refl _ _) | (with_reducible assumption) | (with_reducible refine Below.trans ?_ (Below.mono (by assumption) (by first | omega | (simp; done) | (simp; omega) | (simp at *; omega)))))))
  have hB1 : Below u.heap.size u x1 := hc1
  have zu1 := hB1.size
  clear hb1  
  obtain ⟨t0, t1, c0, c1, c2, c3, hBe, hlt⟩ := HS.out _ hB1
  go_wp2_with fail
  refine (few_is m A n cap true _ (by omega) hF).mono ?_
  rintro e x2 ⟨rfl, hb2⟩
  have zz2 := hb2.size
  try simp at zz2
  have hc2 : Below x1.heap.size x1 x2 := (by (repeat (first | (with_reducible refine Below.drew ?_) | (with_reducible refine below_drewN ?_ _) | (with_reducible refine Below.alloc ?_ (by first | omega | (simp; done) | (simp; omega) | (simp at *; omega)) _) | (with_reducible refine Below.setCell ?_ (by first | omega | (simp; done) | (simp; omega) | (simp at *; omega)) _) | (with_reducible exact Below.refl _ _) | (with_reducible assumption) | (with_reducible refine Below.trans ?_ (Below.mono (by assumption) (by first | omega | (simp; done) | (simp; omega) | (simp at *; omega)))))))
  have hB2 : Below u.heap.size u x2 := hB1.trans (hc2.mono hB1.size)
  have zu2 := hB2.size
  clear hb2 hB1 zz1 zu1 hc1 t0 t1 c0 c1 c2 c3 hBe hlt 
  obtain ⟨t0, t1, c0, c1, c2, c3, hBe, hlt⟩ := HS.out _ hB2
  go_wp2_with fail
  refine (brief_is a b P true _ hP hBr).mono ?_
  rintro e x3 ⟨rfl, hb3⟩
  have zz3 := hb3.size
  try simp at zz3
  have hc3 : Below x2.heap.size x2 x3 := (by (repeat (first | (with_reducible refine Below.drew ?_) | (with_reducible refine below_drewN ?_ _) | (with_reducible refine Below.alloc ?_ (by first | omega | (simp; done) | (simp; omega) | (simp at *; omega)) _) | (with_reducible refine Below.setCell ?_ (by first | omega | (simp; done) | (simp; omega) | (simp at *; omega)) _) | (with_reducible exact Below.refl _ _) | (with_reducible assumption) | (with_reducible refine Below.trans ?_ (Below.mono (by assumption) (by first | omega | (simp; done) | (simp; omega) | (simp at *; omega)))))))
  have hB3 : Below u.heap.size u x3 := hB2.trans (hc3.mono hB2.size)
  have zu3 := hB3.size
  clear hb3 hB2 zz2 zu2 hc2 t0 t1 c0 c1 c2 c3 hBe hlt 
  obtain ⟨t0, t1, c0, c1, c2, c3, hBe, hlt⟩ := HS.out _ hB3
  go_wp2_with fail
  refine (askErr_is m L A cap n l a b E s _ hn (by omega) (Lib.hid (HA.out _ (by (repeat (first | (with_reducible refine Below.drew ?_) | (with_reducible refine below_drewN ?_ _) | (with_reducible refine Below.alloc ?_ (by first | omega | (simp; done) | (simp; omega) | (simp at *; omega)) _) | (with_reducible refine Below.setCell ?_ (by first | omega | (simp; done) | (simp; omega) | (simp at *; omega)) _) | (with_reducible exact Below.refl _ _) | (with_reducible assumption) | (with_reducible refine Below.trans ?_ (Below.mono (by assumption) (by first | omega | (simp; done) | (simp; omega) | (simp at *; omega))))))))) hAE).mono ?_
  rintro e x4 ⟨rfl, hb4⟩
  have zz4 := hb4.size
  try simp at zz4
  have hc4 : Below x3.heap.size x3 x4 := (by (repeat (first | (with_reducible refine Below.drew ?_) | (with_reducible refine below_drewN ?_ _) | (with_reducible refine Below.alloc ?_ (by first | omega | (simp; done) | (simp; omega) | (simp at *; omega)) _) | (with_reducible refine Below.setCell ?_ (by first | omega | (simp; done) | (simp; omega) | (simp at *; omega)) _) | (with_reducible exact Below.refl _ _) | (with_reducible assumption) | (with_reducible refine Below.trans ?_ (Below.mono (by assumption) (by first | omega | (simp; done) | (simp; omega) | (simp at *; omega)))))))
  have hB4 : Below u.heap.size u x4 := hB3.trans (hc4.mono hB3.size)
  have zu4 := hB4.size
  clear hb4 hB3 zz3 zu3 hc3 t0 t1 c0 c1 c2 c3 hBe hlt 
  obtain ⟨t0, t1, c0, c1, c2, c3, hBe, hlt⟩ := HS.out _ hB4
  go_wp2
  go_ret
  exact ⟨rfl, hBe⟩
set_option maxRecDepth 100000 in
set_option maxHeartbeats 4000000 in
theorem sur_more (m l a b more : Int) (s : Bool) (L : List Wv) (A : Option Addr) (n cap : Nat) (w : World) (hn : Hid (n = L.length)) (hl : n ≤ 12) (hF : Hid (fewB n = true)) (HR : Hid (∀ w' : World, Below w.heap.size w w' → SlRows wvV 3 w' A L)) (CA : Hid (A = none → n = 0 ∧ cap = 0)) (P : Int) (hP : Hid (spnE a b = P)) (hBr : Hid ((P != 0 || decide (b - a < 200)) = true)) (hAE : Hid (askE m L l a b = 0)) (hM : Hid (inB more 0 1000 = false)) :
    Calls Tryz.prog 4 #[.agg #[.int .i64 m, .slice A n cap], .agg #[.int .i64 l, .int .i64 a, .int .i64 b, .bool s], .int .i64 more] w fun e w' => e = .returned (.bool true) ∧ Below w.heap.size w w' := by
  go_enter Tryz.func4, Tryz.ntmps4
  go_upto_region 1 with (fail)
  refine wp_world (AskS m A n cap l a b s w) ⟨by simp [go_sem, World.cell?_alloc_past], by simp [go_sem, World.cell?_alloc_past], by simp [go_sem, World.cell?_alloc_past], by simp [go_sem, World.cell?_alloc_past], by simp [go_sem, World.cell?_alloc_past], by simp [go_sem, World.cell?_alloc_past], (by (repeat (first | (with_reducible refine Below.drew ?_) | (with_reducible refine below_drewN ?_ _) | (with_reducible refine Below.alloc ?_ (by first | omega | (simp; done) | (simp; omega) | (simp at *; omega)) _) | (with_reducible refine Below.setCell ?_ (by first | omega | (simp; done) | (simp; omega) | (simp at *; omega)) _) | (with_reducible exact Below.refl _ _) | (with_reducible assumption) | (with_reducible refine Below.trans ?_ (Below.mono (by assumption) (by first | omega | (simp; done) | (simp; omega) | (simp at *; omega))))))), by simp⟩ (fun u hu => ?_)
  have HU := Lib.hid hu
  have HS : Hid (∀ x, Below u.heap.size u x → AskS m A n cap l a b s w x) := Lib.hid fun x hx => HU.out.below hx
  have HA : Hid (∀ x, Below u.heap.size u x → SlRows wvV 3 x A L) := Lib.hid fun x hx => HR.out _ (HU.out.below hx).be
  clear hu
  go_wp2_with fail
  refine (awake_any _).mono ?_
  rintro e x1 ⟨rfl, hb1⟩
  have zz1 := hb1.size
  try simp at zz1
  have hc1 : Below u.heap.size u x1 := (by (repeat (first | (with_reducible refine Below.drew ?_) | (with_reducible refine below_drewN ?_ _) | (with_reducible refine Below.alloc ?_ (by first | omega | (simp; done) | (simp; omega) | (simp at *; omega)) _) | (with_reducible refine Below.setCell ?_ (by first | omega | (simp; done) | (simp; omega) | (simp at *; omega)) _) | (with_reducible exact Below.refl _ _) | (with_reducible assumption) | (with_reducible refine Below.trans ?_ (Below.mono (by assumption) (by first | omega | (simp; done) | (simp; omega) | (simp at *; omega)))))))
  have hB1 : Below u.heap.size u x1 := hc1
  have zu1 := hB1.size
  clear hb1  
  obtain ⟨t0, t1, c0, c1, c2, c3, hBe, hlt⟩ := HS.out _ hB1
  go_wp2_with fail
  refine (few_is m A n cap true _ (by omega) hF).mono ?_
  rintro e x2 ⟨rfl, hb2⟩
  have zz2 := hb2.size
  try simp at zz2
  have hc2 : Below x1.heap.size x1 x2 := (by (repeat (first | (with_reducible refine Below.drew ?_) | (with_reducible refine below_drewN ?_ _) | (with_reducible refine Below.alloc ?_ (by first | omega | (simp; done) | (simp; omega) | (simp at *; omega)) _) | (with_reducible refine Below.setCell ?_ (by first | omega | (simp; done) | (simp; omega) | (simp at *; omega)) _) | (with_reducible exact Below.refl _ _) | (with_reducible assumption) | (with_reducible refine Below.trans ?_ (Below.mono (by assumption) (by first | omega | (simp; done) | (simp; omega) | (simp at *; omega)))))))
  have hB2 : Below u.heap.size u x2 := hB1.trans (hc2.mono hB1.size)
  have zu2 := hB2.size
  clear hb2 hB1 zz1 zu1 hc1 t0 t1 c0 c1 c2 c3 hBe hlt 
  obtain ⟨t0, t1, c0, c1, c2, c3, hBe, hlt⟩ := HS.out _ hB2
  go_wp2_with fail
  refine (brief_is a b P true _ hP hBr).mono ?_
  rintro e x3 ⟨rfl, hb3⟩
  have zz3 := hb3.size
  try simp at zz3
  have hc3 : Below x2.heap.size x2 x3 := (by (repeat (first | (with_reducible refine Below.drew ?_) | (with_reducible refine below_drewN ?_ _) | (with_reducible refine Below.alloc ?_ (by first | omega | (simp; done) | (simp; omega) | (simp at *; omega)) _) | (with_reducible refine Below.setCell ?_ (by first | omega | (simp; done) | (simp; omega) | (simp at *; omega)) _) | (with_reducible exact Below.refl _ _) | (with_reducible assumption) | (with_reducible refine Below.trans ?_ (Below.mono (by assumption) (by first | omega | (simp; done) | (simp; omega) | (simp at *; omega)))))))
  have hB3 : Below u.heap.size u x3 := hB2.trans (hc3.mono hB2.size)
  have zu3 := hB3.size
  clear hb3 hB2 zz2 zu2 hc2 t0 t1 c0 c1 c2 c3 hBe hlt 
  obtain ⟨t0, t1, c0, c1, c2, c3, hBe, hlt⟩ := HS.out _ hB3
  go_wp2_with fail
  refine (askErr_is m L A cap n l a b 0 s _ hn (by omega) (Lib.hid (HA.out _ (by (repeat (first | (with_reducible refine Below.drew ?_) | (with_reducible refine below_drewN ?_ _) | (with_reducible refine Below.alloc ?_ (by first | omega | (simp; done) | (simp; omega) | (simp at *; omega)) _) | (with_reducible refine Below.setCell ?_ (by first | omega | (simp; done) | (simp; omega) | (simp at *; omega)) _) | (with_reducible exact Below.refl _ _) | (with_reducible assumption) | (with_reducible refine Below.trans ?_ (Below.mono (by assumption) (by first | omega | (simp; done) | (simp; omega) | (simp at *; omega))))))))) hAE).mono ?_
  rintro e x4 ⟨rfl, hb4⟩
  have zz4 := hb4.size
  try simp at zz4
  have hc4 : Below x3.heap.size x3 x4 := (by (repeat (first | (with_reducible refine Below.drew ?_) | (with_reducible refine below_drewN ?_ _) | (with_reducible refine Below.alloc ?_ (by first | omega | (simp; done) | (simp; omega) | (simp at *; omega)) _) | (with_reducible refine Below.setCell ?_ (by first | omega | (simp; done) | (simp; omega) | (simp at *; omega)) _) | (with_reducible exact Below.refl _ _) | (with_reducible assumption) | (with_reducible refine Below.trans ?_ (Below.mono (by assumption) (by first | omega | (simp; done) | (simp; omega) | (simp at *; omega)))))))
  have hB4 : Below u.heap.size u x4 := hB3.trans (hc4.mono hB3.size)
  have zu4 := hB4.size
  clear hb4 hB3 zz3 zu3 hc3 t0 t1 c0 c1 c2 c3 hBe hlt 
  obtain ⟨t0, t1, c0, c1, c2, c3, hBe, hlt⟩ := HS.out _ hB4
  go_wp2_with ((go_at_call 23; ((with_reducible refine (bWth_is _ _ _ false _ hM).mono ?_)); rintro e w' ⟨rfl, rfl⟩))
  go_ret
  exact ⟨rfl, hBe⟩
structure SurS (m : Int) (A : Option Addr) (n cap : Nat) (l a b : Int) (s : Bool) (k : Int) (b7 b8 b9 : Nat) (w X : World) : Prop where
  ask : AskS m A n cap l a b s w X
  x : X.cell? ⟨b7, 0, none⟩ = some (.int .i64 l) ∧ X.cell? ⟨b7, 1, none⟩ = some (.int .i64 a) ∧ X.cell? ⟨b7, 2, none⟩ = some (.int .i64 b) ∧ X.cell? ⟨b7, 3, none⟩ = some (.bool true)
  y : X.cell? ⟨b8, 0, none⟩ = some (.int .i64 l) ∧ X.cell? ⟨b8, 1, none⟩ = some (.int .i64 a) ∧ X.cell? ⟨b8, 2, none⟩ = some (.int .i64 b) ∧ X.cell? ⟨b8, 3, none⟩ = some (.bool false)
  z : X.cell? ⟨b9, 0, none⟩ = some (.int .i64 k) ∧ X.cell? ⟨b9, 1, none⟩ = some (.int .i64 a) ∧ X.cell? ⟨b9, 2, none⟩ = some (.int .i64 b) ∧ X.cell? ⟨b9, 3, none⟩ = some (.bool true)
  l7 : b7 < X.heap.size
  l8 : b8 < X.heap.size
  l9 : b9 < X.heap.size
theorem SurS.below {m : Int} {A : Option Addr} {n cap : Nat} {l a b : Int} {s : Bool} {k : Int} {b7 b8 b9 : Nat} {w X X' : World} (h : SurS m A n cap l a b s k b7 b8 b9 w X) (hb : Below X.heap.size X X') : SurS m A n cap l a b s k b7 b8 b9 w X' := by
  have zz := hb.size
  obtain ⟨h1, ⟨h2, h3, h4, h5⟩, ⟨h6, h7, h8, h9⟩, ⟨i1, i2, i3, i4⟩, i5, i6, i7⟩ := h
  exact ⟨h1.below hb, ⟨(hb.cell (p := ⟨b7, 0, none⟩) i5).trans h2, (hb.cell (p := ⟨b7, 1, none⟩) i5).trans h3, (hb.cell (p := ⟨b7, 2, none⟩) i5).trans h4, (hb.cell (p := ⟨b7, 3, none⟩) i5).trans h5⟩, ⟨(hb.cell (p := ⟨b8, 0, none⟩) i6).trans h6, (hb.cell (p := ⟨b8, 1, none⟩) i6).trans h7, (hb.cell (p := ⟨b8, 2, none⟩) i6).trans h8, (hb.cell (p := ⟨b8, 3, none⟩) i6).trans h9⟩, ⟨(hb.cell (p := ⟨b9, 0, none⟩) i7).trans i1, (hb.cell (p := ⟨b9, 1, none⟩) i7).trans i2, (hb.cell (p := ⟨b9, 2, none⟩) i7).trans i3, (hb.cell (p := ⟨b9, 3, none⟩) i7).trans i4⟩, by omega, by omega, by omega⟩
/-- Three new blocks hold the same ask. -/
def SurA (l a b : Int) (s : Bool) (u : World) (s7 s8 s9 : Value) (X : World) : Prop := ∃ b7 b8 b9 : Nat, s7 = .pointer (some ⟨b7, 0, none⟩) ∧ s8 = .pointer (some ⟨b8, 0, none⟩) ∧ s9 = .pointer (some ⟨b9, 0, none⟩) ∧ b7 ≠ b8 ∧ b7 ≠ b9 ∧ b8 ≠ b9 ∧ u.heap.size ≤ b7 ∧ u.heap.size ≤ b8 ∧ u.heap.size ≤ b9 ∧ b7 < X.heap.size ∧ b8 < X.heap.size ∧ b9 < X.heap.size ∧ (X.cell? ⟨b7, 0, none⟩ = some (.int .i64 l) ∧ X.cell? ⟨b7, 1, none⟩ = some (.int .i64 a) ∧ X.cell? ⟨b7, 2, none⟩ = some (.int .i64 b) ∧ X.cell? ⟨b7, 3, none⟩ = some (.bool s)) ∧ (X.cell? ⟨b8, 0, none⟩ = some (.int .i64 l) ∧ X.cell? ⟨b8, 1, none⟩ = some (.int .i64 a) ∧ X.cell? ⟨b8, 2, none⟩ = some (.int .i64 b) ∧ X.cell? ⟨b8, 3, none⟩ = some (.bool s)) ∧ (X.cell? ⟨b9, 0, none⟩ = some (.int .i64 l) ∧ X.cell? ⟨b9, 1, none⟩ = some (.int .i64 a) ∧ X.cell? ⟨b9, 2, none⟩ = some (.int .i64 b) ∧ X.cell? ⟨b9, 3, none⟩ = some (.bool s)) ∧ (∀ j, X.frozen? ⟨b7, j, none⟩ = false) ∧ (∀ j, X.frozen? ⟨b8, j, none⟩ = false) ∧ (∀ j, X.frozen? ⟨b9, j, none⟩ = false) ∧ Below u.heap.size u X
/-- What SlackWindows returns of right asks. -/
def SwR (V : List Rg) (w : World) (e : Ending) (w' : World) : Prop := ∃ (G : Option Addr) (q c : Nat) (E : Int), e = .returned (.tuple #[.slice G q c, .int .i64 E]) ∧ ((E = 0 ∧ q = V.length ∧ V.length ≤ 60 ∧ SlRows rgV 2 w' G V) ∨ (E = 8 ∧ q = 0)) ∧ Below w.heap.size w w'
theorem SlackWindows_w (m : Int) (L : List Wv) (A : Option Addr) (cap n N : Nat) (l a b : Int) (s : Bool) (V : List Rg) (w : World) (hn : Hid (n = L.length)) (hl : n ≤ 1000000) (HL : Hid (SlRows wvV 3 w A L)) (hE0 : Hid (askE m L l a b = 0)) (hN : Hid ((N : Int) = b - a + 1)) (hV : Hid (rwL a (fun k => slkG m L l (lstV s) (a + (k : Int))) N = V)) :
    Calls Tryz.prog 14 #[.agg #[.int .i64 m, .slice A n cap], .agg #[.int .i64 l, .int .i64 a, .int .i64 b, .bool s]] w (SwR V w) := by
  refine (SlackWindows_good m L A cap n N l a b s w hn hl HL hE0 hN).mono ?_
  rw [hV.out]
  rintro e w' (⟨h1, G, c, rfl, h2, h3, h4⟩ | ⟨h1, rfl, h4⟩)
  · exact ⟨G, V.length, c, 0, rfl, .inl ⟨rfl, rfl, h1, h2⟩, h4⟩
  · exact ⟨none, 0, 0, 8, rfl, .inr ⟨rfl, rfl⟩, h4⟩
theorem surA_0 (l a b : Int) (s : Bool) (x : World) : SurA l a b s x (.pointer (some ⟨x.heap.size, 0, none⟩)) (.pointer (some ⟨x.heap.size + 1, 0, none⟩)) (.pointer (some ⟨x.heap.size + 1 + 1, 0, none⟩)) (((x.alloc (.cells #[.int .i64 l, .int .i64 a, .int .i64 b, .bool s] 28)).alloc (.cells #[.int .i64 l, .int .i64 a, .int .i64 b, .bool s] 28)).alloc (.cells #[.int .i64 l, .int .i64 a, .int .i64 b, .bool s] 28)).drew :=
  ⟨x.heap.size, x.heap.size + 1, x.heap.size + 1 + 1, rfl, rfl, rfl, by omega, by omega, by omega, by omega, by omega, by omega, by simp <;> omega, by simp <;> omega, by simp <;> omega, ⟨by simp [go_sem, World.cell?_alloc_past], by simp [go_sem, World.cell?_alloc_past], by simp [go_sem, World.cell?_alloc_past], by simp [go_sem, World.cell?_alloc_past]⟩, ⟨by simp [go_sem, World.cell?_alloc_past], by simp [go_sem, World.cell?_alloc_past], by simp [go_sem, World.cell?_alloc_past], by simp [go_sem, World.cell?_alloc_past]⟩, ⟨by simp [go_sem, World.cell?_alloc_past], by simp [go_sem, World.cell?_alloc_past], by simp [go_sem, World.cell?_alloc_past], by simp [go_sem, World.cell?_alloc_past]⟩, (by intro j; simp [go_sem, World.cell?_alloc_past]), (by intro j; simp [go_sem, World.cell?_alloc_past]), (by intro j; simp [go_sem, World.cell?_alloc_past]), (by (repeat (first | (with_reducible refine Below.drew ?_) | (with_reducible refine below_drewN ?_ _) | (with_reducible refine Below.alloc ?_ (by first | omega | (simp; done) | (simp; omega) | (simp at *; omega)) _) | (with_reducible refine Below.setCell ?_ (by first | omega | (simp; done) | (simp; omega) | (simp at *; omega)) _) | (with_reducible exact Below.refl _ _) | (with_reducible assumption) | (with_reducible refine Below.trans ?_ (Below.mono (by assumption) (by first | omega | (simp; done) | (simp; omega) | (simp at *; omega)))))))⟩
theorem surA_1 (l a b : Int) (s : Bool) (x : World) : SurA l a b s x (.pointer (some ⟨x.heap.size, 0, none⟩)) (.pointer (some ⟨x.heap.size + 1 + 1, 0, none⟩)) (.pointer (some ⟨x.heap.size + 1, 0, none⟩)) (((x.alloc (.cells #[.int .i64 l, .int .i64 a, .int .i64 b, .bool s] 28)).alloc (.cells #[.int .i64 l, .int .i64 a, .int .i64 b, .bool s] 28)).alloc (.cells #[.int .i64 l, .int .i64 a, .int .i64 b, .bool s] 28)).drew :=
  ⟨x.heap.size, x.heap.size + 1 + 1, x.heap.size + 1, rfl, rfl, rfl, by omega, by omega, by omega, by omega, by omega, by omega, by simp <;> omega, by simp <;> omega, by simp <;> omega, ⟨by simp [go_sem, World.cell?_alloc_past], by simp [go_sem, World.cell?_alloc_past], by simp [go_sem, World.cell?_alloc_past], by simp [go_sem, World.cell?_alloc_past]⟩, ⟨by simp [go_sem, World.cell?_alloc_past], by simp [go_sem, World.cell?_alloc_past], by simp [go_sem, World.cell?_alloc_past], by simp [go_sem, World.cell?_alloc_past]⟩, ⟨by simp [go_sem, World.cell?_alloc_past], by simp [go_sem, World.cell?_alloc_past], by simp [go_sem, World.cell?_alloc_past], by simp [go_sem, World.cell?_alloc_past]⟩, (by intro j; simp [go_sem, World.cell?_alloc_past]), (by intro j; simp [go_sem, World.cell?_alloc_past]), (by intro j; simp [go_sem, World.cell?_alloc_past]), (by (repeat (first | (with_reducible refine Below.drew ?_) | (with_reducible refine below_drewN ?_ _) | (with_reducible refine Below.alloc ?_ (by first | omega | (simp; done) | (simp; omega) | (simp at *; omega)) _) | (with_reducible refine Below.setCell ?_ (by first | omega | (simp; done) | (simp; omega) | (simp at *; omega)) _) | (with_reducible exact Below.refl _ _) | (with_reducible assumption) | (with_reducible refine Below.trans ?_ (Below.mono (by assumption) (by first | omega | (simp; done) | (simp; omega) | (simp at *; omega)))))))⟩
theorem surA_2 (l a b : Int) (s : Bool) (x : World) : SurA l a b s x (.pointer (some ⟨x.heap.size + 1, 0, none⟩)) (.pointer (some ⟨x.heap.size, 0, none⟩)) (.pointer (some ⟨x.heap.size + 1 + 1, 0, none⟩)) (((x.alloc (.cells #[.int .i64 l, .int .i64 a, .int .i64 b, .bool s] 28)).alloc (.cells #[.int .i64 l, .int .i64 a, .int .i64 b, .bool s] 28)).alloc (.cells #[.int .i64 l, .int .i64 a, .int .i64 b, .bool s] 28)).drew :=
  ⟨x.heap.size + 1, x.heap.size, x.heap.size + 1 + 1, rfl, rfl, rfl, by omega, by omega, by omega, by omega, by omega, by omega, by simp <;> omega, by simp <;> omega, by simp <;> omega, ⟨by simp [go_sem, World.cell?_alloc_past], by simp [go_sem, World.cell?_alloc_past], by simp [go_sem, World.cell?_alloc_past], by simp [go_sem, World.cell?_alloc_past]⟩, ⟨by simp [go_sem, World.cell?_alloc_past], by simp [go_sem, World.cell?_alloc_past], by simp [go_sem, World.cell?_alloc_past], by simp [go_sem, World.cell?_alloc_past]⟩, ⟨by simp [go_sem, World.cell?_alloc_past], by simp [go_sem, World.cell?_alloc_past], by simp [go_sem, World.cell?_alloc_past], by simp [go_sem, World.cell?_alloc_past]⟩, (by intro j; simp [go_sem, World.cell?_alloc_past]), (by intro j; simp [go_sem, World.cell?_alloc_past]), (by intro j; simp [go_sem, World.cell?_alloc_past]), (by (repeat (first | (with_reducible refine Below.drew ?_) | (with_reducible refine below_drewN ?_ _) | (with_reducible refine Below.alloc ?_ (by first | omega | (simp; done) | (simp; omega) | (simp at *; omega)) _) | (with_reducible refine Below.setCell ?_ (by first | omega | (simp; done) | (simp; omega) | (simp at *; omega)) _) | (with_reducible exact Below.refl _ _) | (with_reducible assumption) | (with_reducible refine Below.trans ?_ (Below.mono (by assumption) (by first | omega | (simp; done) | (simp; omega) | (simp at *; omega)))))))⟩
theorem surA_3 (l a b : Int) (s : Bool) (x : World) : SurA l a b s x (.pointer (some ⟨x.heap.size + 1, 0, none⟩)) (.pointer (some ⟨x.heap.size + 1 + 1, 0, none⟩)) (.pointer (some ⟨x.heap.size, 0, none⟩)) (((x.alloc (.cells #[.int .i64 l, .int .i64 a, .int .i64 b, .bool s] 28)).alloc (.cells #[.int .i64 l, .int .i64 a, .int .i64 b, .bool s] 28)).alloc (.cells #[.int .i64 l, .int .i64 a, .int .i64 b, .bool s] 28)).drew :=
  ⟨x.heap.size + 1, x.heap.size + 1 + 1, x.heap.size, rfl, rfl, rfl, by omega, by omega, by omega, by omega, by omega, by omega, by simp <;> omega, by simp <;> omega, by simp <;> omega, ⟨by simp [go_sem, World.cell?_alloc_past], by simp [go_sem, World.cell?_alloc_past], by simp [go_sem, World.cell?_alloc_past], by simp [go_sem, World.cell?_alloc_past]⟩, ⟨by simp [go_sem, World.cell?_alloc_past], by simp [go_sem, World.cell?_alloc_past], by simp [go_sem, World.cell?_alloc_past], by simp [go_sem, World.cell?_alloc_past]⟩, ⟨by simp [go_sem, World.cell?_alloc_past], by simp [go_sem, World.cell?_alloc_past], by simp [go_sem, World.cell?_alloc_past], by simp [go_sem, World.cell?_alloc_past]⟩, (by intro j; simp [go_sem, World.cell?_alloc_past]), (by intro j; simp [go_sem, World.cell?_alloc_past]), (by intro j; simp [go_sem, World.cell?_alloc_past]), (by (repeat (first | (with_reducible refine Below.drew ?_) | (with_reducible refine below_drewN ?_ _) | (with_reducible refine Below.alloc ?_ (by first | omega | (simp; done) | (simp; omega) | (simp at *; omega)) _) | (with_reducible refine Below.setCell ?_ (by first | omega | (simp; done) | (simp; omega) | (simp at *; omega)) _) | (with_reducible exact Below.refl _ _) | (with_reducible assumption) | (with_reducible refine Below.trans ?_ (Below.mono (by assumption) (by first | omega | (simp; done) | (simp; omega) | (simp at *; omega)))))))⟩
theorem surA_4 (l a b : Int) (s : Bool) (x : World) : SurA l a b s x (.pointer (some ⟨x.heap.size + 1 + 1, 0, none⟩)) (.pointer (some ⟨x.heap.size, 0, none⟩)) (.pointer (some ⟨x.heap.size + 1, 0, none⟩)) (((x.alloc (.cells #[.int .i64 l, .int .i64 a, .int .i64 b, .bool s] 28)).alloc (.cells #[.int .i64 l, .int .i64 a, .int .i64 b, .bool s] 28)).alloc (.cells #[.int .i64 l, .int .i64 a, .int .i64 b, .bool s] 28)).drew :=
  ⟨x.heap.size + 1 + 1, x.heap.size, x.heap.size + 1, rfl, rfl, rfl, by omega, by omega, by omega, by omega, by omega, by omega, by simp <;> omega, by simp <;> omega, by simp <;> omega, ⟨by simp [go_sem, World.cell?_alloc_past], by simp [go_sem, World.cell?_alloc_past], by simp [go_sem, World.cell?_alloc_past], by simp [go_sem, World.cell?_alloc_past]⟩, ⟨by simp [go_sem, World.cell?_alloc_past], by simp [go_sem, World.cell?_alloc_past], by simp [go_sem, World.cell?_alloc_past], by simp [go_sem, World.cell?_alloc_past]⟩, ⟨by simp [go_sem, World.cell?_alloc_past], by simp [go_sem, World.cell?_alloc_past], by simp [go_sem, World.cell?_alloc_past], by simp [go_sem, World.cell?_alloc_past]⟩, (by intro j; simp [go_sem, World.cell?_alloc_past]), (by intro j; simp [go_sem, World.cell?_alloc_past]), (by intro j; simp [go_sem, World.cell?_alloc_past]), (by (repeat (first | (with_reducible refine Below.drew ?_) | (with_reducible refine below_drewN ?_ _) | (with_reducible refine Below.alloc ?_ (by first | omega | (simp; done) | (simp; omega) | (simp at *; omega)) _) | (with_reducible refine Below.setCell ?_ (by first | omega | (simp; done) | (simp; omega) | (simp at *; omega)) _) | (with_reducible exact Below.refl _ _) | (with_reducible assumption) | (with_reducible refine Below.trans ?_ (Below.mono (by assumption) (by first | omega | (simp; done) | (simp; omega) | (simp at *; omega)))))))⟩
theorem surA_5 (l a b : Int) (s : Bool) (x : World) : SurA l a b s x (.pointer (some ⟨x.heap.size + 1 + 1, 0, none⟩)) (.pointer (some ⟨x.heap.size + 1, 0, none⟩)) (.pointer (some ⟨x.heap.size, 0, none⟩)) (((x.alloc (.cells #[.int .i64 l, .int .i64 a, .int .i64 b, .bool s] 28)).alloc (.cells #[.int .i64 l, .int .i64 a, .int .i64 b, .bool s] 28)).alloc (.cells #[.int .i64 l, .int .i64 a, .int .i64 b, .bool s] 28)).drew :=
  ⟨x.heap.size + 1 + 1, x.heap.size + 1, x.heap.size, rfl, rfl, rfl, by omega, by omega, by omega, by omega, by omega, by omega, by simp <;> omega, by simp <;> omega, by simp <;> omega, ⟨by simp [go_sem, World.cell?_alloc_past], by simp [go_sem, World.cell?_alloc_past], by simp [go_sem, World.cell?_alloc_past], by simp [go_sem, World.cell?_alloc_past]⟩, ⟨by simp [go_sem, World.cell?_alloc_past], by simp [go_sem, World.cell?_alloc_past], by simp [go_sem, World.cell?_alloc_past], by simp [go_sem, World.cell?_alloc_past]⟩, ⟨by simp [go_sem, World.cell?_alloc_past], by simp [go_sem, World.cell?_alloc_past], by simp [go_sem, World.cell?_alloc_past], by simp [go_sem, World.cell?_alloc_past]⟩, (by intro j; simp [go_sem, World.cell?_alloc_past]), (by intro j; simp [go_sem, World.cell?_alloc_past]), (by intro j; simp [go_sem, World.cell?_alloc_past]), (by (repeat (first | (with_reducible refine Below.drew ?_) | (with_reducible refine below_drewN ?_ _) | (with_reducible refine Below.alloc ?_ (by first | omega | (simp; done) | (simp; omega) | (simp at *; omega)) _) | (with_reducible refine Below.setCell ?_ (by first | omega | (simp; done) | (simp; omega) | (simp at *; omega)) _) | (with_reducible exact Below.refl _ _) | (with_reducible assumption) | (with_reducible refine Below.trans ?_ (Below.mono (by assumption) (by first | omega | (simp; done) | (simp; omega) | (simp at *; omega)))))))⟩
set_option maxRecDepth 100000 in
set_option maxHeartbeats 4000000 in
theorem sur_main (m l a b more : Int) (s : Bool) (L : List Wv) (A : Option Addr) (n cap : Nat) (w : World) (hn : Hid (n = L.length)) (hl : n ≤ 12) (hF : Hid (fewB n = true)) (HR : Hid (∀ w' : World, Below w.heap.size w w' → SlRows wvV 3 w' A L)) (CA : Hid (A = none → n = 0 ∧ cap = 0)) (P : Int) (hP : Hid (spnE a b = P)) (hBr : Hid ((P != 0 || decide (b - a < 200)) = true)) (hAE : Hid (askE m L l a b = 0)) (hM : Hid (inB more 0 1000 = true)) (k : Int) (hk : Hid (min (l + more) 10000000 = k)) (hT : Hid (tidE m L = 0)) (l0 : 0 ≤ l) (l1 : l ≤ 10000000) (a0 : 0 ≤ a) (b1 : b ≤ 1000000) (hAK : Hid (askE m L k a b = 0)) (N : Nat) (hN : Hid ((N : Int) = b - a + 1)) (V1 V2 V3 : List Rg) (hV1 : Hid (rwL a (fun k => slkG m L l (lstV true) (a + (k : Int))) N = V1)) (hV2 : Hid (rwL a (fun k => slkG m L l (lstV false) (a + (k : Int))) N = V2)) (hV3 : Hid (rwL a (fun j => slkG m L k (lstV true) (a + (j : Int))) N = V3)) (hl12 : Hid (∀ u ∈ V1, lieB V2 u = true)) (hl13 : Hid (∀ u ∈ V1, lieB V3 u = true)) (hw1 : Hid (∀ u ∈ V1, a ≤ u.lo ∧ u.lo ≤ u.hi ∧ u.hi ≤ b ∧ ∀ t, u.lo ≤ t → t ≤ u.hi → -l ≤ levLo m L t ∧ levHi m L t ≤ l)) :
    Calls Tryz.prog 4 #[.agg #[.int .i64 m, .slice A n cap], .agg #[.int .i64 l, .int .i64 a, .int .i64 b, .bool s], .int .i64 more] w fun e w' => e = .returned (.bool true) ∧ Below w.heap.size w w' := by
  have hM2 := inB_iff.1 hM.out
  have ewk : IntKind.i64.wrap (l + more) = l + more := IntWalk.i64_in _ (by omega)
  clear hM2
  go_enter Tryz.func4, Tryz.ntmps4
  go_upto_region 1 with (fail)
  refine wp_world (AskS m A n cap l a b s w) ⟨by simp [go_sem, World.cell?_alloc_past], by simp [go_sem, World.cell?_alloc_past], by simp [go_sem, World.cell?_alloc_past], by simp [go_sem, World.cell?_alloc_past], by simp [go_sem, World.cell?_alloc_past], by simp [go_sem, World.cell?_alloc_past], (by (repeat (first | (with_reducible refine Below.drew ?_) | (with_reducible refine below_drewN ?_ _) | (with_reducible refine Below.alloc ?_ (by first | omega | (simp; done) | (simp; omega) | (simp at *; omega)) _) | (with_reducible refine Below.setCell ?_ (by first | omega | (simp; done) | (simp; omega) | (simp at *; omega)) _) | (with_reducible exact Below.refl _ _) | (with_reducible assumption) | (with_reducible refine Below.trans ?_ (Below.mono (by assumption) (by first | omega | (simp; done) | (simp; omega) | (simp at *; omega))))))), by simp⟩ (fun u hu => ?_)
  have HU := Lib.hid hu
  have HS : Hid (∀ x, Below u.heap.size u x → AskS m A n cap l a b s w x) := Lib.hid fun x hx => HU.out.below hx
  have HA : Hid (∀ x, Below u.heap.size u x → SlRows wvV 3 x A L) := Lib.hid fun x hx => HR.out _ (HU.out.below hx).be
  clear hu
  go_wp2_with fail
  refine (awake_any _).mono ?_
  rintro e x1 ⟨rfl, hb1⟩
  have zz1 := hb1.size
  try simp at zz1
  have hc1 : Below u.heap.size u x1 := (by (repeat (first | (with_reducible refine Below.drew ?_) | (with_reducible refine below_drewN ?_ _) | (with_reducible refine Below.alloc ?_ (by first | omega | (simp; done) | (simp; omega) | (simp at *; omega)) _) | (with_reducible refine Below.setCell ?_ (by first | omega | (simp; done) | (simp; omega) | (simp at *; omega)) _) | (with_reducible exact Below.refl _ _) | (with_reducible assumption) | (with_reducible refine Below.trans ?_ (Below.mono (by assumption) (by first | omega | (simp; done) | (simp; omega) | (simp at *; omega)))))))
  have hB1 : Below u.heap.size u x1 := hc1
  have zu1 := hB1.size
  clear hb1  
  obtain ⟨t0, t1, c0, c1, c2, c3, hBe, hlt⟩ := HS.out _ hB1
  go_wp2_with fail
  refine (few_is m A n cap true _ (by omega) hF).mono ?_
  rintro e x2 ⟨rfl, hb2⟩
  have zz2 := hb2.size
  try simp at zz2
  have hc2 : Below x1.heap.size x1 x2 := (by (repeat (first | (with_reducible refine Below.drew ?_) | (with_reducible refine below_drewN ?_ _) | (with_reducible refine Below.alloc ?_ (by first | omega | (simp; done) | (simp; omega) | (simp at *; omega)) _) | (with_reducible refine Below.setCell ?_ (by first | omega | (simp; done) | (simp; omega) | (simp at *; omega)) _) | (with_reducible exact Below.refl _ _) | (with_reducible assumption) | (with_reducible refine Below.trans ?_ (Below.mono (by assumption) (by first | omega | (simp; done) | (simp; omega) | (simp at *; omega)))))))
  have hB2 : Below u.heap.size u x2 := hB1.trans (hc2.mono hB1.size)
  have zu2 := hB2.size
  clear hb2 hB1 zz1 zu1 hc1 t0 t1 c0 c1 c2 c3 hBe hlt 
  obtain ⟨t0, t1, c0, c1, c2, c3, hBe, hlt⟩ := HS.out _ hB2
  go_wp2_with fail
  refine (brief_is a b P true _ hP hBr).mono ?_
  rintro e x3 ⟨rfl, hb3⟩
  have zz3 := hb3.size
  try simp at zz3
  have hc3 : Below x2.heap.size x2 x3 := (by (repeat (first | (with_reducible refine Below.drew ?_) | (with_reducible refine below_drewN ?_ _) | (with_reducible refine Below.alloc ?_ (by first | omega | (simp; done) | (simp; omega) | (simp at *; omega)) _) | (with_reducible refine Below.setCell ?_ (by first | omega | (simp; done) | (simp; omega) | (simp at *; omega)) _) | (with_reducible exact Below.refl _ _) | (with_reducible assumption) | (with_reducible refine Below.trans ?_ (Below.mono (by assumption) (by first | omega | (simp; done) | (simp; omega) | (simp at *; omega)))))))
  have hB3 : Below u.heap.size u x3 := hB2.trans (hc3.mono hB2.size)
  have zu3 := hB3.size
  clear hb3 hB2 zz2 zu2 hc2 t0 t1 c0 c1 c2 c3 hBe hlt 
  obtain ⟨t0, t1, c0, c1, c2, c3, hBe, hlt⟩ := HS.out _ hB3
  go_wp2_with fail
  refine (askErr_is m L A cap n l a b 0 s _ hn (by omega) (Lib.hid (HA.out _ (by (repeat (first | (with_reducible refine Below.drew ?_) | (with_reducible refine below_drewN ?_ _) | (with_reducible refine Below.alloc ?_ (by first | omega | (simp; done) | (simp; omega) | (simp at *; omega)) _) | (with_reducible refine Below.setCell ?_ (by first | omega | (simp; done) | (simp; omega) | (simp at *; omega)) _) | (with_reducible exact Below.refl _ _) | (with_reducible assumption) | (with_reducible refine Below.trans ?_ (Below.mono (by assumption) (by first | omega | (simp; done) | (simp; omega) | (simp at *; omega))))))))) hAE).mono ?_
  rintro e x4 ⟨rfl, hb4⟩
  have zz4 := hb4.size
  try simp at zz4
  have hc4 : Below x3.heap.size x3 x4 := (by (repeat (first | (with_reducible refine Below.drew ?_) | (with_reducible refine below_drewN ?_ _) | (with_reducible refine Below.alloc ?_ (by first | omega | (simp; done) | (simp; omega) | (simp at *; omega)) _) | (with_reducible refine Below.setCell ?_ (by first | omega | (simp; done) | (simp; omega) | (simp at *; omega)) _) | (with_reducible exact Below.refl _ _) | (with_reducible assumption) | (with_reducible refine Below.trans ?_ (Below.mono (by assumption) (by first | omega | (simp; done) | (simp; omega) | (simp at *; omega)))))))
  have hB4 : Below u.heap.size u x4 := hB3.trans (hc4.mono hB3.size)
  have zu4 := hB4.size
  clear hb4 hB3 zz3 zu3 hc3 t0 t1 c0 c1 c2 c3 hBe hlt 
  obtain ⟨t0, t1, c0, c1, c2, c3, hBe, hlt⟩ := HS.out _ hB4
  go_upto_region 5 with ((go_at_call 23; ((with_reducible refine (bWth_is _ _ _ true _ hM).mono ?_)); rintro e w' ⟨rfl, rfl⟩))
  have : w.heap.size + 1 < x4.heap.size := by omega
  have : x4.heap.size ≠ w.heap.size + 1 := by omega
  have : w.heap.size + 1 ≠ x4.heap.size := by omega
  have : w.heap.size + 1 < x4.heap.size + 1 := by omega
  have : x4.heap.size + 1 ≠ w.heap.size + 1 := by omega
  have : w.heap.size + 1 ≠ x4.heap.size + 1 := by omega
  have : w.heap.size + 1 < x4.heap.size + 1 + 1 := by omega
  have : x4.heap.size + 1 + 1 ≠ w.heap.size + 1 := by omega
  have : w.heap.size + 1 ≠ x4.heap.size + 1 + 1 := by omega
  have : w.heap.size < x4.heap.size := by omega
  have : x4.heap.size ≠ w.heap.size := by omega
  have : w.heap.size ≠ x4.heap.size := by omega
  have : w.heap.size < x4.heap.size + 1 := by omega
  have : x4.heap.size + 1 ≠ w.heap.size := by omega
  have : w.heap.size ≠ x4.heap.size + 1 := by omega
  have : w.heap.size < x4.heap.size + 1 + 1 := by omega
  have : x4.heap.size + 1 + 1 ≠ w.heap.size := by omega
  have : w.heap.size ≠ x4.heap.size + 1 + 1 := by omega
  go_cut [7, 8, 9] from 10 (fun s7 s8 s9 wx => SurA l a b s x4 s7 s8 s9 wx)
  case first =>
    go_region
    all_goals (go_wp2_with fail; go_meet; first | exact surA_0 l a b s x4 | exact surA_1 l a b s x4 | exact surA_2 l a b s x4 | exact surA_3 l a b s x4 | exact surA_4 l a b s x4 | exact surA_5 l a b s x4)
  case rest =>
    obtain ⟨b7, b8, b9, rfl, rfl, rfl, n78, n79, n89, g7, g8, g9, k7, k8, k9, ⟨p0, p1, p2, p3⟩, ⟨q0, q1, q2, q3⟩, ⟨r0, r1, r2, r3⟩, fz7, fz8, fz9, hBc⟩ := hcut
    have m78 := n78.symm
    have m79 := n79.symm
    have m89 := n89.symm
    have hcu : Below u.heap.size u wc := hB4.trans (hBc.mono hB4.size)
    have HWX := Lib.hid (HS.out _ hcu)
    have G7 : u.heap.size ≤ b7 ∧ u.heap.size ≤ b8 ∧ u.heap.size ≤ b9 := by have := hB4.size; omega
    obtain ⟨j7, j8, j9⟩ := G7
    have hub := HU.out.lt
    obtain ⟨tt0, tt1, cc0, cc1, cc2, cc3, hBe', hlt'⟩ := HWX.out
    clear hB4 zz4 zu4 hc4 t0 t1 c0 c1 c2 c3 hBe hlt hcu hBc g7 g8 g9
    go_upto_region 8 with (fail)
    refine wp_world (SurS m A n cap l a b s k b7 b8 b9 w) ⟨⟨by simp [go_sem, World.cell?_alloc_past, *] <;> omega, by simp [go_sem, World.cell?_alloc_past, *] <;> omega, by simp [go_sem, World.cell?_alloc_past, *] <;> omega, by simp [go_sem, World.cell?_alloc_past, *] <;> omega, by simp [go_sem, World.cell?_alloc_past, *] <;> omega, by simp [go_sem, World.cell?_alloc_past, *] <;> omega, (by (repeat (first | (with_reducible refine Below.drew ?_) | (with_reducible refine below_drewN ?_ _) | (with_reducible refine Below.alloc ?_ (by first | omega | (simp; done) | (simp; omega) | (simp at *; omega)) _) | (with_reducible refine Below.setCell ?_ (by first | omega | (simp; done) | (simp; omega) | (simp at *; omega)) _) | (with_reducible exact Below.refl _ _) | (with_reducible assumption) | (with_reducible refine Below.trans ?_ (Below.mono (by assumption) (by first | omega | (simp; done) | (simp; omega) | (simp at *; omega))))))), by simp; omega⟩, ⟨by simp [go_sem, *], by simp [go_sem, *], by simp [go_sem, *], by simp [go_sem, *]⟩, ⟨by simp [go_sem, *], by simp [go_sem, *], by simp [go_sem, *], by simp [go_sem, *]⟩, ⟨by simp [go_sem, *]; exact hk.out, by simp [go_sem, *], by simp [go_sem, *], by simp [go_sem, *]⟩, by simp; omega, by simp; omega, by simp; omega⟩ (fun v hv => ?_)
    clear tt0 tt1 cc0 cc1 cc2 cc3 hBe' hlt' p0 p1 p2 p3 q0 q1 q2 q3 r0 r1 r2 r3 fz7 fz8 fz9 n78 n79 n89 m78 m79 m89 k7 k8 k9 j7 j8 j9 hub HWX HS HA HU
    have HV := Lib.hid hv
    have HS : Hid (∀ x, Below v.heap.size v x → SurS m A n cap l a b s k b7 b8 b9 w x) := Lib.hid fun x hx => HV.out.below hx
    have HA : Hid (∀ x, Below v.heap.size v x → SlRows wvV 3 x A L) := Lib.hid fun x hx => HR.out _ (HV.out.below hx).ask.be
    obtain ⟨⟨t0, t1, c0, c1, c2, c3, hBe, hlt⟩, ⟨p0, p1, p2, p3⟩, ⟨q0, q1, q2, q3⟩, ⟨r0, r1, r2, r3⟩, l7, l8, l9⟩ := hv
    go_upto_region 8 with (fail)
    refine wp_region_held_drew (S := (fun w' => w'.cell? ⟨w.heap.size, 0, none⟩ = some (.int .i64 m) ∧ w'.cell? ⟨w.heap.size, 1, none⟩ = some (.slice A n cap) ∧ w'.cell? ⟨b7, 0, none⟩ = some (.int .i64 l) ∧ w'.cell? ⟨b7, 1, none⟩ = some (.int .i64 a) ∧ w'.cell? ⟨b7, 2, none⟩ = some (.int .i64 b) ∧ w'.cell? ⟨b7, 3, none⟩ = some (.bool true) ∧ w'.cell? ⟨b8, 0, none⟩ = some (.int .i64 l) ∧ w'.cell? ⟨b8, 1, none⟩ = some (.int .i64 a) ∧ w'.cell? ⟨b8, 2, none⟩ = some (.int .i64 b) ∧ w'.cell? ⟨b8, 3, none⟩ = some (.bool false) ∧ w'.cell? ⟨b9, 0, none⟩ = some (.int .i64 k) ∧ w'.cell? ⟨b9, 1, none⟩ = some (.int .i64 a) ∧ w'.cell? ⟨b9, 2, none⟩ = some (.int .i64 b) ∧ w'.cell? ⟨b9, 3, none⟩ = some (.bool true))) (by kernel_rfl) (by simp [go_sem, World.cell?_alloc_past, *]) (fun hHeld => ?_)
    refine tkH 0 ⟨some 55, _, _, _, _, _⟩ ?_ rfl ?_ (by assumption) ?_
    rotate_left
    · (intro w hSw; (try dsimp only at hSw); go_simp; all_goals with_reducible rfl)
    try simp only [Act.put, sA, sB, sC]
    refine tkH 2 ⟨some 57, _, _, _, _, _⟩ ?_ rfl ?_ (by assumption) ?_
    rotate_left
    · (intro w hSw; (try dsimp only at hSw); go_simp; all_goals with_reducible rfl)
    try simp only [Act.put, sA, sB, sC]
    refine wpAnyH_ready (rs := [1]) (by kernel_rfl) (by simp) ?_
    refine AllReadyH.cons rfl (fun K hK => ?_) AllReadyH.nil
    go_simp
    refine (own_is m L A n cap _ hn (by omega) (Lib.hid (HA.out _ (by (repeat (first | (with_reducible refine Below.drew ?_) | (with_reducible refine below_drewN ?_ _) | (with_reducible refine Below.alloc ?_ (by first | omega | (simp; done) | (simp; omega) | (simp at *; omega)) _) | (with_reducible refine Below.setCell ?_ (by first | omega | (simp; done) | (simp; omega) | (simp at *; omega)) _) | (with_reducible exact Below.refl _ _) | (with_reducible assumption) | (with_reducible refine Below.trans ?_ (Below.mono (by assumption) (by first | omega | (simp; done) | (simp; omega) | (simp at *; omega))))))))) CA).mono ?_
    rintro e x1 ⟨G8, cg8, rfl, hG8, hb1⟩
    have zz1 := hb1.size
    try simp at zz1
    have hc1 : Below v.heap.size v x1 := (by (repeat (first | (with_reducible refine Below.drew ?_) | (with_reducible refine below_drewN ?_ _) | (with_reducible refine Below.alloc ?_ (by first | omega | (simp; done) | (simp; omega) | (simp at *; omega)) _) | (with_reducible refine Below.setCell ?_ (by first | omega | (simp; done) | (simp; omega) | (simp at *; omega)) _) | (with_reducible exact Below.refl _ _) | (with_reducible assumption) | (with_reducible refine Below.trans ?_ (Below.mono (by assumption) (by first | omega | (simp; done) | (simp; omega) | (simp at *; omega)))))))
    have hB1 : Below v.heap.size v x1 := hc1
    have zu1 := hB1.size
    have HG8 := Lib.hid hG8
    clear hG8
    clear hb1 t0 t1 c0 c1 c2 c3 hBe hlt p0 p1 p2 p3 q0 q1 q2 q3 r0 r1 r2 r3 l7 l8 l9 
    obtain ⟨⟨t0, t1, c0, c1, c2, c3, hBe, hlt⟩, ⟨p0, p1, p2, p3⟩, ⟨q0, q1, q2, q3⟩, ⟨r0, r1, r2, r3⟩, l7, l8, l9⟩ := HS.out _ hB1
    go_wp2_with fail
    refine hK.out _ _ (by simp [go_sem, World.cell?_alloc_past, *]) (fun hHeld => ?_)
    clear hK K
    try simp only [Act.put, sA, sB, sC]
    refine wpAnyH_ready (rs := [3]) (by kernel_rfl) (by simp) ?_
    refine AllReadyH.cons rfl (fun K hK => ?_) AllReadyH.nil
    go_simp
    refine (SlackWindows_w m L G8 cg8 n N l a b true V1 _ hn (by omega) HG8 hAE hN hV1).mono ?_
    rintro e x2 ⟨W1, z1, y1, E1, rfl, hD1, hb2⟩
    have zz2 := hb2.size
    try simp at zz2
    have hc2 : Below x1.heap.size x1 x2 := (by (repeat (first | (with_reducible refine Below.drew ?_) | (with_reducible refine below_drewN ?_ _) | (with_reducible refine Below.alloc ?_ (by first | omega | (simp; done) | (simp; omega) | (simp at *; omega)) _) | (with_reducible refine Below.setCell ?_ (by first | omega | (simp; done) | (simp; omega) | (simp at *; omega)) _) | (with_reducible exact Below.refl _ _) | (with_reducible assumption) | (with_reducible refine Below.trans ?_ (Below.mono (by assumption) (by first | omega | (simp; done) | (simp; omega) | (simp at *; omega)))))))
    have hB2 : Below v.heap.size v x2 := hB1.trans (hc2.mono hB1.size)
    have zu2 := hB2.size
    have D1 := Lib.hid hD1
    clear hD1 HG8
    clear hb2 hB1 zz1 zu1 hc1 t0 t1 c0 c1 c2 c3 hBe hlt p0 p1 p2 p3 q0 q1 q2 q3 r0 r1 r2 r3 l7 l8 l9 
    obtain ⟨⟨t0, t1, c0, c1, c2, c3, hBe, hlt⟩, ⟨p0, p1, p2, p3⟩, ⟨q0, q1, q2, q3⟩, ⟨r0, r1, r2, r3⟩, l7, l8, l9⟩ := HS.out _ hB2
    go_wp2_with fail
    refine hK.out _ _ (by simp [go_sem, World.cell?_alloc_past, *]) (fun hHeld => ?_)
    clear hK K
    try simp only [Act.put, sA, sB, sC]
    refine tkH 4 ⟨some 54, _, _, _, _, _⟩ ?_ rfl ?_ (by assumption) ?_
    rotate_left
    · (intro w hSw; (try dsimp only at hSw); go_simp; all_goals with_reducible rfl)
    try simp only [Act.put, sA, sB, sC]
    refine tkH 5 ⟨some 59, _, _, _, _, _⟩ ?_ rfl ?_ (by assumption) ?_
    rotate_left
    · (intro w hSw; (try dsimp only at hSw); go_simp; all_goals with_reducible rfl)
    try simp only [Act.put, sA, sB, sC]
    refine tkH 6 ⟨some 60, _, _, _, _, _⟩ ?_ rfl ?_ (by assumption) ?_
    rotate_left
    · (intro w hSw; (try dsimp only at hSw); go_simp; all_goals with_reducible rfl)
    try simp only [Act.put, sA, sB, sC]
    refine tkH 7 ⟨some 10, _, _, _, _, _⟩ ?_ rfl ?_ (by assumption) ?_
    rotate_left
    · (intro w hSw; (try dsimp only at hSw); go_simp; all_goals with_reducible rfl)
    try simp only [Act.put, sA, sB, sC]
    refine tkH 8 ⟨some 11, _, _, _, _, _⟩ ?_ rfl ?_ (by assumption) ?_
    rotate_left
    · (intro w hSw; (try dsimp only at hSw); go_simp; all_goals with_reducible rfl)
    try simp only [Act.put, sA, sB, sC]
    refine wpAnyH_done (by kernel_rfl) ?_ _
    go_upto_region 9 with (fail)
    refine wp_region_held_drew (S := (fun w' => w'.cell? ⟨w.heap.size, 0, none⟩ = some (.int .i64 m) ∧ w'.cell? ⟨w.heap.size, 1, none⟩ = some (.slice A n cap) ∧ w'.cell? ⟨b7, 0, none⟩ = some (.int .i64 l) ∧ w'.cell? ⟨b7, 1, none⟩ = some (.int .i64 a) ∧ w'.cell? ⟨b7, 2, none⟩ = some (.int .i64 b) ∧ w'.cell? ⟨b7, 3, none⟩ = some (.bool true) ∧ w'.cell? ⟨b8, 0, none⟩ = some (.int .i64 l) ∧ w'.cell? ⟨b8, 1, none⟩ = some (.int .i64 a) ∧ w'.cell? ⟨b8, 2, none⟩ = some (.int .i64 b) ∧ w'.cell? ⟨b8, 3, none⟩ = some (.bool false) ∧ w'.cell? ⟨b9, 0, none⟩ = some (.int .i64 k) ∧ w'.cell? ⟨b9, 1, none⟩ = some (.int .i64 a) ∧ w'.cell? ⟨b9, 2, none⟩ = some (.int .i64 b) ∧ w'.cell? ⟨b9, 3, none⟩ = some (.bool true))) (by kernel_rfl) (by simp [go_sem, World.cell?_alloc_past, *]) (fun hHeld => ?_)
    refine tkH 0 ⟨some 62, _, _, _, _, _⟩ ?_ rfl ?_ (by assumption) ?_
    rotate_left
    · (intro w hSw; (try dsimp only at hSw); go_simp; all_goals with_reducible rfl)
    try simp only [Act.put, sA, sB, sC]
    refine tkH 2 ⟨some 64, _, _, _, _, _⟩ ?_ rfl ?_ (by assumption) ?_
    rotate_left
    · (intro w hSw; (try dsimp only at hSw); go_simp; all_goals with_reducible rfl)
    try simp only [Act.put, sA, sB, sC]
    refine wpAnyH_ready (rs := [1]) (by kernel_rfl) (by simp) ?_
    refine AllReadyH.cons rfl (fun K hK => ?_) AllReadyH.nil
    go_simp
    refine (own_is m L A n cap _ hn (by omega) (Lib.hid (HA.out _ (by (repeat (first | (with_reducible refine Below.drew ?_) | (with_reducible refine below_drewN ?_ _) | (with_reducible refine Below.alloc ?_ (by first | omega | (simp; done) | (simp; omega) | (simp at *; omega)) _) | (with_reducible refine Below.setCell ?_ (by first | omega | (simp; done) | (simp; omega) | (simp at *; omega)) _) | (with_reducible exact Below.refl _ _) | (with_reducible assumption) | (with_reducible refine Below.trans ?_ (Below.mono (by assumption) (by first | omega | (simp; done) | (simp; omega) | (simp at *; omega))))))))) CA).mono ?_
    rintro e x3 ⟨G9, cg9, rfl, hG9, hb3⟩
    have zz3 := hb3.size
    try simp at zz3
    have hc3 : Below x2.heap.size x2 x3 := (by (repeat (first | (with_reducible refine Below.drew ?_) | (with_reducible refine below_drewN ?_ _) | (with_reducible refine Below.alloc ?_ (by first | omega | (simp; done) | (simp; omega) | (simp at *; omega)) _) | (with_reducible refine Below.setCell ?_ (by first | omega | (simp; done) | (simp; omega) | (simp at *; omega)) _) | (with_reducible exact Below.refl _ _) | (with_reducible assumption) | (with_reducible refine Below.trans ?_ (Below.mono (by assumption) (by first | omega | (simp; done) | (simp; omega) | (simp at *; omega)))))))
    have hB3 : Below v.heap.size v x3 := hB2.trans (hc3.mono hB2.size)
    have zu3 := hB3.size
    have hd2_3 : Below x2.heap.size x2 x3 := hc3
    have HG9 := Lib.hid hG9
    clear hG9
    clear hb3 hB2 zz2 zu2 hc2 t0 t1 c0 c1 c2 c3 hBe hlt p0 p1 p2 p3 q0 q1 q2 q3 r0 r1 r2 r3 l7 l8 l9 
    obtain ⟨⟨t0, t1, c0, c1, c2, c3, hBe, hlt⟩, ⟨p0, p1, p2, p3⟩, ⟨q0, q1, q2, q3⟩, ⟨r0, r1, r2, r3⟩, l7, l8, l9⟩ := HS.out _ hB3
    go_wp2_with fail
    refine hK.out _ _ (by simp [go_sem, World.cell?_alloc_past, *]) (fun hHeld => ?_)
    clear hK K
    try simp only [Act.put, sA, sB, sC]
    refine wpAnyH_ready (rs := [3]) (by kernel_rfl) (by simp) ?_
    refine AllReadyH.cons rfl (fun K hK => ?_) AllReadyH.nil
    go_simp
    refine (SlackWindows_w m L G9 cg9 n N l a b false V2 _ hn (by omega) HG9 hAE hN hV2).mono ?_
    rintro e x4 ⟨W2, z2, y2, E2, rfl, hD2, hb4⟩
    have zz4 := hb4.size
    try simp at zz4
    have hc4 : Below x3.heap.size x3 x4 := (by (repeat (first | (with_reducible refine Below.drew ?_) | (with_reducible refine below_drewN ?_ _) | (with_reducible refine Below.alloc ?_ (by first | omega | (simp; done) | (simp; omega) | (simp at *; omega)) _) | (with_reducible refine Below.setCell ?_ (by first | omega | (simp; done) | (simp; omega) | (simp at *; omega)) _) | (with_reducible exact Below.refl _ _) | (with_reducible assumption) | (with_reducible refine Below.trans ?_ (Below.mono (by assumption) (by first | omega | (simp; done) | (simp; omega) | (simp at *; omega)))))))
    have hB4 : Below v.heap.size v x4 := hB3.trans (hc4.mono hB3.size)
    have zu4 := hB4.size
    have hd2_4 : Below x2.heap.size x2 x4 := hd2_3.trans (hc4.mono hd2_3.size)
    have D2 := Lib.hid hD2
    clear hD2 HG9
    clear hb4 hB3 zz3 zu3 hc3 t0 t1 c0 c1 c2 c3 hBe hlt p0 p1 p2 p3 q0 q1 q2 q3 r0 r1 r2 r3 l7 l8 l9 hd2_3
    obtain ⟨⟨t0, t1, c0, c1, c2, c3, hBe, hlt⟩, ⟨p0, p1, p2, p3⟩, ⟨q0, q1, q2, q3⟩, ⟨r0, r1, r2, r3⟩, l7, l8, l9⟩ := HS.out _ hB4
    go_wp2_with fail
    refine hK.out _ _ (by simp [go_sem, World.cell?_alloc_past, *]) (fun hHeld => ?_)
    clear hK K
    try simp only [Act.put, sA, sB, sC]
    refine tkH 4 ⟨some 61, _, _, _, _, _⟩ ?_ rfl ?_ (by assumption) ?_
    rotate_left
    · (intro w hSw; (try dsimp only at hSw); go_simp; all_goals with_reducible rfl)
    try simp only [Act.put, sA, sB, sC]
    refine tkH 5 ⟨some 66, _, _, _, _, _⟩ ?_ rfl ?_ (by assumption) ?_
    rotate_left
    · (intro w hSw; (try dsimp only at hSw); go_simp; all_goals with_reducible rfl)
    try simp only [Act.put, sA, sB, sC]
    refine tkH 6 ⟨some 67, _, _, _, _, _⟩ ?_ rfl ?_ (by assumption) ?_
    rotate_left
    · (intro w hSw; (try dsimp only at hSw); go_simp; all_goals with_reducible rfl)
    try simp only [Act.put, sA, sB, sC]
    refine tkH 7 ⟨some 12, _, _, _, _, _⟩ ?_ rfl ?_ (by assumption) ?_
    rotate_left
    · (intro w hSw; (try dsimp only at hSw); go_simp; all_goals with_reducible rfl)
    try simp only [Act.put, sA, sB, sC]
    refine tkH 8 ⟨some 13, _, _, _, _, _⟩ ?_ rfl ?_ (by assumption) ?_
    rotate_left
    · (intro w hSw; (try dsimp only at hSw); go_simp; all_goals with_reducible rfl)
    try simp only [Act.put, sA, sB, sC]
    refine wpAnyH_done (by kernel_rfl) ?_ _
    go_upto_region 10 with (fail)
    refine wp_region_held_drew (S := (fun w' => w'.cell? ⟨w.heap.size, 0, none⟩ = some (.int .i64 m) ∧ w'.cell? ⟨w.heap.size, 1, none⟩ = some (.slice A n cap) ∧ w'.cell? ⟨b7, 0, none⟩ = some (.int .i64 l) ∧ w'.cell? ⟨b7, 1, none⟩ = some (.int .i64 a) ∧ w'.cell? ⟨b7, 2, none⟩ = some (.int .i64 b) ∧ w'.cell? ⟨b7, 3, none⟩ = some (.bool true) ∧ w'.cell? ⟨b8, 0, none⟩ = some (.int .i64 l) ∧ w'.cell? ⟨b8, 1, none⟩ = some (.int .i64 a) ∧ w'.cell? ⟨b8, 2, none⟩ = some (.int .i64 b) ∧ w'.cell? ⟨b8, 3, none⟩ = some (.bool false) ∧ w'.cell? ⟨b9, 0, none⟩ = some (.int .i64 k) ∧ w'.cell? ⟨b9, 1, none⟩ = some (.int .i64 a) ∧ w'.cell? ⟨b9, 2, none⟩ = some (.int .i64 b) ∧ w'.cell? ⟨b9, 3, none⟩ = some (.bool true))) (by kernel_rfl) (by simp [go_sem, World.cell?_alloc_past, *]) (fun hHeld => ?_)
    refine tkH 0 ⟨some 69, _, _, _, _, _⟩ ?_ rfl ?_ (by assumption) ?_
    rotate_left
    · (intro w hSw; (try dsimp only at hSw); go_simp; all_goals with_reducible rfl)
    try simp only [Act.put, sA, sB, sC]
    refine tkH 2 ⟨some 71, _, _, _, _, _⟩ ?_ rfl ?_ (by assumption) ?_
    rotate_left
    · (intro w hSw; (try dsimp only at hSw); go_simp; all_goals with_reducible rfl)
    try simp only [Act.put, sA, sB, sC]
    refine wpAnyH_ready (rs := [1]) (by kernel_rfl) (by simp) ?_
    refine AllReadyH.cons rfl (fun K hK => ?_) AllReadyH.nil
    go_simp
    refine (own_is m L A n cap _ hn (by omega) (Lib.hid (HA.out _ (by (repeat (first | (with_reducible refine Below.drew ?_) | (with_reducible refine below_drewN ?_ _) | (with_reducible refine Below.alloc ?_ (by first | omega | (simp; done) | (simp; omega) | (simp at *; omega)) _) | (with_reducible refine Below.setCell ?_ (by first | omega | (simp; done) | (simp; omega) | (simp at *; omega)) _) | (with_reducible exact Below.refl _ _) | (with_reducible assumption) | (with_reducible refine Below.trans ?_ (Below.mono (by assumption) (by first | omega | (simp; done) | (simp; omega) | (simp at *; omega))))))))) CA).mono ?_
    rintro e x5 ⟨G10, cg10, rfl, hG10, hb5⟩
    have zz5 := hb5.size
    try simp at zz5
    have hc5 : Below x4.heap.size x4 x5 := (by (repeat (first | (with_reducible refine Below.drew ?_) | (with_reducible refine below_drewN ?_ _) | (with_reducible refine Below.alloc ?_ (by first | omega | (simp; done) | (simp; omega) | (simp at *; omega)) _) | (with_reducible refine Below.setCell ?_ (by first | omega | (simp; done) | (simp; omega) | (simp at *; omega)) _) | (with_reducible exact Below.refl _ _) | (with_reducible assumption) | (with_reducible refine Below.trans ?_ (Below.mono (by assumption) (by first | omega | (simp; done) | (simp; omega) | (simp at *; omega)))))))
    have hB5 : Below v.heap.size v x5 := hB4.trans (hc5.mono hB4.size)
    have zu5 := hB5.size
    have hd2_5 : Below x2.heap.size x2 x5 := hd2_4.trans (hc5.mono hd2_4.size)
    have hd4_5 : Below x4.heap.size x4 x5 := hc5
    have HG10 := Lib.hid hG10
    clear hG10
    clear hb5 hB4 zz4 zu4 hc4 t0 t1 c0 c1 c2 c3 hBe hlt p0 p1 p2 p3 q0 q1 q2 q3 r0 r1 r2 r3 l7 l8 l9 hd2_4
    obtain ⟨⟨t0, t1, c0, c1, c2, c3, hBe, hlt⟩, ⟨p0, p1, p2, p3⟩, ⟨q0, q1, q2, q3⟩, ⟨r0, r1, r2, r3⟩, l7, l8, l9⟩ := HS.out _ hB5
    go_wp2_with fail
    refine hK.out _ _ (by simp [go_sem, World.cell?_alloc_past, *]) (fun hHeld => ?_)
    clear hK K
    try simp only [Act.put, sA, sB, sC]
    refine wpAnyH_ready (rs := [3]) (by kernel_rfl) (by simp) ?_
    refine AllReadyH.cons rfl (fun K hK => ?_) AllReadyH.nil
    go_simp
    refine (SlackWindows_w m L G10 cg10 n N k a b true V3 _ hn (by omega) HG10 hAK hN hV3).mono ?_
    rintro e x6 ⟨W3, z3, y3, E3, rfl, hD3, hb6⟩
    have zz6 := hb6.size
    try simp at zz6
    have hc6 : Below x5.heap.size x5 x6 := (by (repeat (first | (with_reducible refine Below.drew ?_) | (with_reducible refine below_drewN ?_ _) | (with_reducible refine Below.alloc ?_ (by first | omega | (simp; done) | (simp; omega) | (simp at *; omega)) _) | (with_reducible refine Below.setCell ?_ (by first | omega | (simp; done) | (simp; omega) | (simp at *; omega)) _) | (with_reducible exact Below.refl _ _) | (with_reducible assumption) | (with_reducible refine Below.trans ?_ (Below.mono (by assumption) (by first | omega | (simp; done) | (simp; omega) | (simp at *; omega)))))))
    have hB6 : Below v.heap.size v x6 := hB5.trans (hc6.mono hB5.size)
    have zu6 := hB6.size
    have hd2_6 : Below x2.heap.size x2 x6 := hd2_5.trans (hc6.mono hd2_5.size)
    have hd4_6 : Below x4.heap.size x4 x6 := hd4_5.trans (hc6.mono hd4_5.size)
    have D3 := Lib.hid hD3
    clear hD3 HG10
    clear hb6 hB5 zz5 zu5 hc5 t0 t1 c0 c1 c2 c3 hBe hlt p0 p1 p2 p3 q0 q1 q2 q3 r0 r1 r2 r3 l7 l8 l9 hd2_5 hd4_5
    obtain ⟨⟨t0, t1, c0, c1, c2, c3, hBe, hlt⟩, ⟨p0, p1, p2, p3⟩, ⟨q0, q1, q2, q3⟩, ⟨r0, r1, r2, r3⟩, l7, l8, l9⟩ := HS.out _ hB6
    go_wp2_with fail
    refine hK.out _ _ (by simp [go_sem, World.cell?_alloc_past, *]) (fun hHeld => ?_)
    clear hK K
    try simp only [Act.put, sA, sB, sC]
    refine tkH 4 ⟨some 68, _, _, _, _, _⟩ ?_ rfl ?_ (by assumption) ?_
    rotate_left
    · (intro w hSw; (try dsimp only at hSw); go_simp; all_goals with_reducible rfl)
    try simp only [Act.put, sA, sB, sC]
    refine tkH 5 ⟨some 73, _, _, _, _, _⟩ ?_ rfl ?_ (by assumption) ?_
    rotate_left
    · (intro w hSw; (try dsimp only at hSw); go_simp; all_goals with_reducible rfl)
    try simp only [Act.put, sA, sB, sC]
    refine tkH 6 ⟨some 74, _, _, _, _, _⟩ ?_ rfl ?_ (by assumption) ?_
    rotate_left
    · (intro w hSw; (try dsimp only at hSw); go_simp; all_goals with_reducible rfl)
    try simp only [Act.put, sA, sB, sC]
    refine tkH 7 ⟨some 14, _, _, _, _, _⟩ ?_ rfl ?_ (by assumption) ?_
    rotate_left
    · (intro w hSw; (try dsimp only at hSw); go_simp; all_goals with_reducible rfl)
    try simp only [Act.put, sA, sB, sC]
    refine tkH 8 ⟨some 15, _, _, _, _, _⟩ ?_ rfl ?_ (by assumption) ?_
    rotate_left
    · (intro w hSw; (try dsimp only at hSw); go_simp; all_goals with_reducible rfl)
    try simp only [Act.put, sA, sB, sC]
    refine wpAnyH_done (by kernel_rfl) ?_ _
    rcases D1.out with ⟨rfl, w1, v1, s1⟩ | ⟨rfl, _⟩
    · rcases D2.out with ⟨rfl, w2, v2, s2⟩ | ⟨rfl, _⟩
      · rcases D3.out with ⟨rfl, w3, v3, s3⟩ | ⟨rfl, _⟩
        · clear D1 D2 D3
          have P1 := Lib.hid (s1.below hd2_6)
          have P2 := Lib.hid (s2.below hd4_6)
          have P3 := Lib.hid s3
          have Q1 := Lib.hid w1
          have Q2 := Lib.hid w2
          have Q3 := Lib.hid w3
          have v1' : z1 ≤ 60 := by omega
          have v2' : z2 ≤ 60 := by omega
          have v3' : z3 ≤ 60 := by omega
          clear s1 s2 s3 w1 w2 w3 v1 v2 v3 hd2_6 hd4_6
          go_wp2_with fail
          refine (inside_is V1 V2 W1 W2 z1 z2 y1 y2 _ Q1 Q2 (by omega) (by omega) P1 P2 hl12).mono ?_
          rintro e x7 ⟨rfl, hb7⟩
          have zz7 := hb7.size
          try simp at zz7
          have hc7 : Below x6.heap.size x6 x7 := (by (repeat (first | (with_reducible refine Below.drew ?_) | (with_reducible refine below_drewN ?_ _) | (with_reducible refine Below.alloc ?_ (by first | omega | (simp; done) | (simp; omega) | (simp at *; omega)) _) | (with_reducible refine Below.setCell ?_ (by first | omega | (simp; done) | (simp; omega) | (simp at *; omega)) _) | (with_reducible exact Below.refl _ _) | (with_reducible assumption) | (with_reducible refine Below.trans ?_ (Below.mono (by assumption) (by first | omega | (simp; done) | (simp; omega) | (simp at *; omega)))))))
          have hB7 : Below v.heap.size v x7 := hB6.trans (hc7.mono hB6.size)
          have zu7 := hB7.size
          have P1' := Lib.hid (P1.out.below hc7)
          have P3' := Lib.hid (P3.out.below hc7)
          clear P1 P2 P3
          clear hb7 hB6 zz6 zu6 hc6 t0 t1 c0 c1 c2 c3 hBe hlt p0 p1 p2 p3 q0 q1 q2 q3 r0 r1 r2 r3 l7 l8 l9 
          obtain ⟨⟨t0, t1, c0, c1, c2, c3, hBe, hlt⟩, ⟨p0, p1, p2, p3⟩, ⟨q0, q1, q2, q3⟩, ⟨r0, r1, r2, r3⟩, l7, l8, l9⟩ := HS.out _ hB7
          go_wp2_with fail
          refine (inside_is V1 V3 W1 W3 z1 z3 y1 y3 _ Q1 Q3 (by omega) (by omega) P1' P3' hl13).mono ?_
          rintro e x8 ⟨rfl, hb8⟩
          have zz8 := hb8.size
          try simp at zz8
          have hc8 : Below x7.heap.size x7 x8 := (by (repeat (first | (with_reducible refine Below.drew ?_) | (with_reducible refine below_drewN ?_ _) | (with_reducible refine Below.alloc ?_ (by first | omega | (simp; done) | (simp; omega) | (simp at *; omega)) _) | (with_reducible refine Below.setCell ?_ (by first | omega | (simp; done) | (simp; omega) | (simp at *; omega)) _) | (with_reducible exact Below.refl _ _) | (with_reducible assumption) | (with_reducible refine Below.trans ?_ (Below.mono (by assumption) (by first | omega | (simp; done) | (simp; omega) | (simp at *; omega)))))))
          have hB8 : Below v.heap.size v x8 := hB7.trans (hc8.mono hB7.size)
          have zu8 := hB8.size
          have P1 : Hid (∀ x, Below x8.heap.size x8 x → SlRows rgV 2 x W1 V1) := Lib.hid fun x hx => (P1'.out.below hc8).below hx
          clear P1' P3'
          clear hb8 hB7 zz7 zu7 hc7 t0 t1 c0 c1 c2 c3 hBe hlt p0 p1 p2 p3 q0 q1 q2 q3 r0 r1 r2 r3 l7 l8 l9 
          obtain ⟨⟨t0, t1, c0, c1, c2, c3, hBe, hlt⟩, ⟨p0, p1, p2, p3⟩, ⟨q0, q1, q2, q3⟩, ⟨r0, r1, r2, r3⟩, l7, l8, l9⟩ := HS.out _ hB8
          have HS2 : Hid (∀ x, Below x8.heap.size x8 x → SurS m A n cap l a b s k b7 b8 b9 w x) := Lib.hid fun x hx => HS.out _ (hB8.trans (hx.mono zu8))
          have HA2 : Hid (∀ x, Below x8.heap.size x8 x → SlRows wvV 3 x A L) := Lib.hid fun x hx => HA.out _ (hB8.trans (hx.mono zu8))
          clear HS HA hB8 zz8 zu8 hc8 t0 t1 c0 c1 c2 c3 hBe hlt p0 p1 p2 p3 q0 q1 q2 q3 r0 r1 r2 r3 l7 l8 l9
          go_wp2
          go_loopw [16] (fun i wr => ∃ j : Nat, i = .int .i64 j ∧ j ≤ z1 ∧ Below x8.heap.size x8 wr) (fun i _ => z1 - (intOf i).toNat)
          case atStart => exact ⟨0, rfl, by omega, (by (repeat (first | (with_reducible refine Below.drew ?_) | (with_reducible refine below_drewN ?_ _) | (with_reducible refine Below.alloc ?_ (by first | omega | (simp; done) | (simp; omega) | (simp at *; omega)) _) | (with_reducible refine Below.setCell ?_ (by first | omega | (simp; done) | (simp; omega) | (simp at *; omega)) _) | (with_reducible exact Below.refl _ _) | (with_reducible assumption) | (with_reducible refine Below.trans ?_ (Below.mono (by assumption) (by first | omega | (simp; done) | (simp; omega) | (simp at *; omega)))))))⟩
          case round =>
            obtain ⟨j, rfl, hj, hB⟩ := hrel
            rename World => wo
            have hsz := hB.size
            obtain ⟨⟨t0, t1, c0, c1, c2, c3, hBe, hlt⟩, ⟨p0, p1, p2, p3⟩, ⟨q0, q1, q2, q3⟩, ⟨r0, r1, r2, r3⟩, l7, l8, l9⟩ := HS2.out _ hB
            by_cases hjn : j < z1
            · have hjl : j < V1.length := by have := Q1.out; omega
              have jn : (j : Int) < (z1 : Int) := by omega
              rcases P1.out _ hB with h0 | ⟨bl, off, rfl, hbl, hRa⟩
              · rw [h0] at hjl; simp at hjl
              obtain ⟨e0, e1⟩ := rg_at hRa hjl
              have eg : V1.getD j default = V1[j] := by rw [List.getD_eq_getElem?_getD, List.getElem?_eq_getElem hjl]; rfl
              have hin := hw1.out _ (List.getElem_mem hjl)
              rw [eg] at e0 e1
              obtain ⟨⟨ul, uh⟩, hu⟩ : ∃ u, Hid (V1[j] = u) := ⟨_, Lib.hid rfl⟩
              rw [hu.out] at e0 e1 hin
              dsimp only at e0 e1 hin
              obtain ⟨i1, i2, i3, i4⟩ := hin
              have I4 := Lib.hid i4
              have W1 : inB ul a b = true := inB_true (by omega) (by omega)
              have W2 : inB uh ul b = true := inB_true (by omega) (by omega)
              have HW1 := Lib.hid W1
              have HW2 := Lib.hid W2
              have HRA : Hid (∀ w' : World, Below wo.heap.size wo w' → w'.cell? ⟨bl, off + j * 2, none⟩ = some (.int .i64 ul) ∧ w'.cell? ⟨bl, off + j * 2 + 1, none⟩ = some (.int .i64 uh)) := Lib.hid fun w' h => ⟨(h.cell (p := ⟨bl, off + j * 2, none⟩) hbl).trans e0, (h.cell (p := ⟨bl, off + j * 2 + 1, none⟩) hbl).trans e1⟩
              clear hRa eg hu i4 W1 W2 q0 q1 q2 q3 r0 r1 r2 r3 p0 p1 p2 p3 l7 l8 l9
              go_upto_region 18 with (fail)
              refine wp_region_held_drew (S := (fun w' => w'.cell? ⟨bl, off + j * 2, none⟩ = some (.int .i64 ul) ∧ w'.cell? ⟨bl, off + j * 2 + 1, none⟩ = some (.int .i64 uh) ∧ w'.cell? ⟨w.heap.size + 1, 0, none⟩ = some (.int .i64 l) ∧ w'.cell? ⟨w.heap.size + 1, 1, none⟩ = some (.int .i64 a) ∧ w'.cell? ⟨w.heap.size + 1, 2, none⟩ = some (.int .i64 b) ∧ w'.cell? ⟨w.heap.size + 1, 3, none⟩ = some (.bool s))) (by kernel_rfl) (by simp [go_sem, World.cell?_alloc_past, *]) (fun hHeld => ?_)
              refine tkH 0 ⟨some 111, _, _, _, _, _⟩ ?_ rfl ?_ (by assumption) ?_
              rotate_left
              · (intro w hSw; (try dsimp only at hSw); go_simp; all_goals with_reducible rfl)
              try simp only [Act.put, sA, sB, sC]
              refine tkH 1 ⟨some 112, _, _, _, _, _⟩ ?_ rfl ?_ (by assumption) ?_
              rotate_left
              · (intro w hSw; (try dsimp only at hSw); go_simp; all_goals with_reducible rfl)
              try simp only [Act.put, sA, sB, sC]
              refine tkH 2 ⟨some 113, _, _, _, _, _⟩ ?_ rfl ?_ (by assumption) ?_
              rotate_left
              · (intro w hSw; (try dsimp only at hSw); go_simp; all_goals with_reducible rfl)
              try simp only [Act.put, sA, sB, sC]
              refine tkH 3 ⟨some 114, _, _, _, _, _⟩ ?_ rfl ?_ (by assumption) ?_
              rotate_left
              · (intro w hSw; (try dsimp only at hSw); go_simp; all_goals with_reducible rfl)
              try simp only [Act.put, sA, sB, sC]
              refine tkH 4 ⟨some 115, _, _, _, _, _⟩ ?_ rfl ?_ (by assumption) ?_
              rotate_left
              · (intro w hSw; (try dsimp only at hSw); go_simp; all_goals with_reducible rfl)
              try simp only [Act.put, sA, sB, sC]
              refine tkH 5 ⟨some 116, _, _, _, _, _⟩ ?_ rfl ?_ (by assumption) ?_
              rotate_left
              · (intro w hSw; (try dsimp only at hSw); go_simp; all_goals with_reducible rfl)
              try simp only [Act.put, sA, sB, sC]
              refine tkH 6 ⟨some 117, _, _, _, _, _⟩ ?_ rfl ?_ (by assumption) ?_
              rotate_left
              · (intro w hSw; (try dsimp only at hSw); go_simp; all_goals with_reducible rfl)
              try simp only [Act.put, sA, sB, sC]
              refine tkH 7 ⟨some 118, _, _, _, _, _⟩ ?_ rfl ?_ (by assumption) ?_
              rotate_left
              · (intro w hSw; (try dsimp only at hSw); go_simp; all_goals with_reducible rfl)
              try simp only [Act.put, sA, sB, sC]
              refine tkH 8 ⟨some 119, _, _, _, _, _⟩ ?_ rfl ?_ (by assumption) ?_
              rotate_left
              · (intro w hSw; (try dsimp only at hSw); go_simp; all_goals with_reducible rfl)
              try simp only [Act.put, sA, sB, sC]
              refine tkH 9 ⟨some 120, _, _, _, _, _⟩ ?_ rfl ?_ (by assumption) ?_
              rotate_left
              · (intro w hSw; (try dsimp only at hSw); go_simp; all_goals with_reducible rfl)
              try simp only [Act.put, sA, sB, sC]
              refine tkH 10 ⟨some 121, _, _, _, _, _⟩ ?_ rfl ?_ (by assumption) ?_
              rotate_left
              · (intro w hSw; (try dsimp only at hSw); go_simp; all_goals with_reducible rfl)
              try simp only [Act.put, sA, sB, sC]
              refine wpAnyH_ready (rs := [11]) (by kernel_rfl) (by simp) ?_
              refine AllReadyH.cons rfl (fun K hK => ?_) AllReadyH.nil
              go_simp
              refine (bWth_is _ _ _ true _ HW1).mono ?_
              rintro e w' ⟨rfl, rfl⟩
              go_wp2_with fail
              refine hK.out _ _ (by simp [go_sem, World.cell?_alloc_past, *]) (fun hHeld => ?_)
              clear hK K
              try simp only [Act.put, sA, sB, sC]
              refine tkH 12 ⟨some 123, _, _, _, _, _⟩ ?_ rfl ?_ (by assumption) ?_
              rotate_left
              · (intro w hSw; (try dsimp only at hSw); go_simp; all_goals with_reducible rfl)
              try simp only [Act.put, sA, sB, sC]
              refine tkH 13 ⟨some 124, _, _, _, _, _⟩ ?_ rfl ?_ (by assumption) ?_
              rotate_left
              · (intro w hSw; (try dsimp only at hSw); go_simp; all_goals with_reducible rfl)
              try simp only [Act.put, sA, sB, sC]
              refine tkH 14 ⟨some 125, _, _, _, _, _⟩ ?_ rfl ?_ (by assumption) ?_
              rotate_left
              · (intro w hSw; (try dsimp only at hSw); go_simp; all_goals with_reducible rfl)
              try simp only [Act.put, sA, sB, sC]
              refine tkH 15 ⟨some 126, _, _, _, _, _⟩ ?_ rfl ?_ (by assumption) ?_
              rotate_left
              · (intro w hSw; (try dsimp only at hSw); go_simp; all_goals with_reducible rfl)
              try simp only [Act.put, sA, sB, sC]
              refine tkH 16 ⟨some 127, _, _, _, _, _⟩ ?_ rfl ?_ (by assumption) ?_
              rotate_left
              · (intro w hSw; (try dsimp only at hSw); go_simp; all_goals with_reducible rfl)
              try simp only [Act.put, sA, sB, sC]
              refine tkH 17 ⟨some 128, _, _, _, _, _⟩ ?_ rfl ?_ (by assumption) ?_
              rotate_left
              · (intro w hSw; (try dsimp only at hSw); go_simp; all_goals with_reducible rfl)
              try simp only [Act.put, sA, sB, sC]
              refine tkH 18 ⟨some 129, _, _, _, _, _⟩ ?_ rfl ?_ (by assumption) ?_
              rotate_left
              · (intro w hSw; (try dsimp only at hSw); go_simp; all_goals with_reducible rfl)
              try simp only [Act.put, sA, sB, sC]
              refine tkH 19 ⟨some 130, _, _, _, _, _⟩ ?_ rfl ?_ (by assumption) ?_
              rotate_left
              · (intro w hSw; (try dsimp only at hSw); go_simp; all_goals with_reducible rfl)
              try simp only [Act.put, sA, sB, sC]
              refine tkH 20 ⟨some 131, _, _, _, _, _⟩ ?_ rfl ?_ (by assumption) ?_
              rotate_left
              · (intro w hSw; (try dsimp only at hSw); go_simp; all_goals with_reducible rfl)
              try simp only [Act.put, sA, sB, sC]
              refine tkH 21 ⟨some 132, _, _, _, _, _⟩ ?_ rfl ?_ (by assumption) ?_
              rotate_left
              · (intro w hSw; (try dsimp only at hSw); go_simp; all_goals with_reducible rfl)
              try simp only [Act.put, sA, sB, sC]
              refine tkH 22 ⟨some 133, _, _, _, _, _⟩ ?_ rfl ?_ (by assumption) ?_
              rotate_left
              · (intro w hSw; (try dsimp only at hSw); go_simp; all_goals with_reducible rfl)
              try simp only [Act.put, sA, sB, sC]
              refine tkH 23 ⟨some 134, _, _, _, _, _⟩ ?_ rfl ?_ (by assumption) ?_
              rotate_left
              · (intro w hSw; (try dsimp only at hSw); go_simp; all_goals with_reducible rfl)
              try simp only [Act.put, sA, sB, sC]
              refine tkH 24 ⟨some 135, _, _, _, _, _⟩ ?_ rfl ?_ (by assumption) ?_
              rotate_left
              · (intro w hSw; (try dsimp only at hSw); go_simp; all_goals with_reducible rfl)
              try simp only [Act.put, sA, sB, sC]
              refine tkH 25 ⟨some 136, _, _, _, _, _⟩ ?_ rfl ?_ (by assumption) ?_
              rotate_left
              · (intro w hSw; (try dsimp only at hSw); go_simp; all_goals with_reducible rfl)
              try simp only [Act.put, sA, sB, sC]
              refine tkH 26 ⟨some 137, _, _, _, _, _⟩ ?_ rfl ?_ (by assumption) ?_
              rotate_left
              · (intro w hSw; (try dsimp only at hSw); go_simp; all_goals with_reducible rfl)
              try simp only [Act.put, sA, sB, sC]
              refine wpAnyH_ready (rs := [27]) (by kernel_rfl) (by simp) ?_
              refine AllReadyH.cons rfl (fun K hK => ?_) AllReadyH.nil
              go_simp
              refine (bWth_is _ _ _ true _ HW2).mono ?_
              rintro e w' ⟨rfl, rfl⟩
              go_wp2_with fail
              refine hK.out _ _ (by simp [go_sem, World.cell?_alloc_past, *]) (fun hHeld => ?_)
              clear hK K
              try simp only [Act.put, sA, sB, sC]
              refine tkH 28 ⟨some 139, _, _, _, _, _⟩ ?_ rfl ?_ (by assumption) ?_
              rotate_left
              · (intro w hSw; (try dsimp only at hSw); go_simp; all_goals with_reducible rfl)
              try simp only [Act.put, sA, sB, sC]
              refine tkH 29 ⟨some 140, _, _, _, _, _⟩ ?_ rfl ?_ (by assumption) ?_
              rotate_left
              · (intro w hSw; (try dsimp only at hSw); go_simp; all_goals with_reducible rfl)
              try simp only [Act.put, sA, sB, sC]
              refine wpAnyH_done (by kernel_rfl) ?_ _
              go_wp2
              go_loopw [17] (fun i w2 => ∃ t : Int, i = .int .i64 t ∧ ul ≤ t ∧ t ≤ uh + 1 ∧ Hid (Below wo.heap.size wo w2) ∧ Below x8.heap.size x8 w2) (fun i _ => (uh + 1 - intOf i).toNat)
              case atStart => exact ⟨ul, rfl, by omega, by omega, Lib.hid (by (repeat (first | (with_reducible refine Below.drew ?_) | (with_reducible refine below_drewN ?_ _) | (with_reducible refine Below.alloc ?_ (by first | omega | (simp; done) | (simp; omega) | (simp at *; omega)) _) | (with_reducible refine Below.setCell ?_ (by first | omega | (simp; done) | (simp; omega) | (simp at *; omega)) _) | (with_reducible exact Below.refl _ _) | (with_reducible assumption) | (with_reducible refine Below.trans ?_ (Below.mono (by assumption) (by first | omega | (simp; done) | (simp; omega) | (simp at *; omega))))))), (by (repeat (first | (with_reducible refine Below.drew ?_) | (with_reducible refine below_drewN ?_ _) | (with_reducible refine Below.alloc ?_ (by first | omega | (simp; done) | (simp; omega) | (simp at *; omega)) _) | (with_reducible refine Below.setCell ?_ (by first | omega | (simp; done) | (simp; omega) | (simp at *; omega)) _) | (with_reducible exact Below.refl _ _) | (with_reducible assumption) | (with_reducible refine Below.trans ?_ (Below.mono (by assumption) (by first | omega | (simp; done) | (simp; omega) | (simp at *; omega)))))))⟩
              case round =>
                obtain ⟨t, rfl, ht0, ht1, hC, hB2⟩ := hrel
                have hsz2 := hB2.size
                have hC2 := hC.out
                clear t0 t1 c0 c1 c2 c3 hBe hlt
                obtain ⟨⟨t0, t1, c0, c1, c2, c3, hBe, hlt⟩, ⟨p0, p1, p2, p3⟩, ⟨q0, q1, q2, q3⟩, ⟨r0, r1, r2, r3⟩, l7, l8, l9⟩ := HS2.out _ hB2
                obtain ⟨f0, f1⟩ := HRA.out _ hC2
                clear q0 q1 q2 q3 r0 r1 r2 r3 p0 p1 p2 p3 l7 l8 l9
                by_cases htu : t ≤ uh
                · have et : IntKind.i64.wrap (t + 1) = t + 1 := IntWalk.i64_in _ (by omega)
                  have en : IntKind.i64.wrap (-l) = -l := IntWalk.i64_in _ (by omega)
                  obtain ⟨y0, y9⟩ := I4.out t ht0 htu
                  obtain ⟨x, hx⟩ : ∃ z, Hid (levLo m L t = z) := ⟨_, Lib.hid rfl⟩
                  obtain ⟨y, hy⟩ : ∃ z, Hid (levHi m L t = z) := ⟨_, Lib.hid rfl⟩
                  rw [hx.out] at y0
                  rw [hy.out] at y9
                  have y0' : ¬ x < -l := by omega
                  have y9' : ¬ l < y := by omega
                  have hLE : Hid (lvlE m L t = 0) := Lib.hid (by unfold lvlE; rw [hT.out, rngE_m (by omega) (by omega)]; rfl)
                  go_wp2_with fail
                  refine (own_is m L A n cap _ hn (by omega) (Lib.hid (HA2.out _ hB2)) CA).mono ?_
                  rintro e xa ⟨Ga, ca, rfl, hGa, hba⟩
                  have hBa : Below wo.heap.size wo xa := hC2.trans (hba.mono hC2.size)
                  have hBX : Below x8.heap.size x8 xa := hB2.trans (hba.mono hsz2)
                  have HGa := Lib.hid hGa
                  clear hGa hba
                  go_wp2_with fail
                  refine (LevelAt_good m L Ga ca n t x y _ hn (by omega) HGa hLE hx hy).mono ?_
                  rintro e xb ⟨rfl, hbb⟩
                  have hBb : Below wo.heap.size wo xb := hBa.trans (hbb.mono hBa.size)
                  have hBY : Below x8.heap.size x8 xb := hBX.trans (hbb.mono hBX.size)
                  clear hbb hBa hBX t0 t1 c0 c1 c2 c3 hBe hlt f0 f1
                  obtain ⟨⟨t0, t1, c0, c1, c2, c3, hBe, hlt⟩, ⟨p0, p1, p2, p3⟩, ⟨q0, q1, q2, q3⟩, ⟨r0, r1, r2, r3⟩, l7, l8, l9⟩ := HS2.out _ hBY
                  obtain ⟨f0, f1⟩ := HRA.out _ hBb
                  clear q0 q1 q2 q3 r0 r1 r2 r3 p0 p1 p2 p3 l7 l8 l9
                  have hzb := hBY.size
                  have hzc := hBb.size
                  have o1 : w.heap.size + 1 < xb.heap.size := by omega
                  have o2 : xb.heap.size ≠ w.heap.size + 1 := by omega
                  have o3 : w.heap.size + 1 ≠ xb.heap.size := by omega
                  go_wp2
                  go_roundw
                  case rel => exact ⟨t + 1, by first | rfl | (simp; omega) | (congr 1; omega), by omega, by omega, Lib.hid (by (repeat (first | (with_reducible refine Below.drew ?_) | (with_reducible refine below_drewN ?_ _) | (with_reducible refine Below.alloc ?_ (by first | omega | (simp; done) | (simp; omega) | (simp at *; omega)) _) | (with_reducible refine Below.setCell ?_ (by first | omega | (simp; done) | (simp; omega) | (simp at *; omega)) _) | (with_reducible exact Below.refl _ _) | (with_reducible assumption) | (with_reducible refine Below.trans ?_ (Below.mono (by assumption) (by first | omega | (simp; done) | (simp; omega) | (simp at *; omega))))))), (by (repeat (first | (with_reducible refine Below.drew ?_) | (with_reducible refine below_drewN ?_ _) | (with_reducible refine Below.alloc ?_ (by first | omega | (simp; done) | (simp; omega) | (simp at *; omega)) _) | (with_reducible refine Below.setCell ?_ (by first | omega | (simp; done) | (simp; omega) | (simp at *; omega)) _) | (with_reducible exact Below.refl _ _) | (with_reducible assumption) | (with_reducible refine Below.trans ?_ (Below.mono (by assumption) (by first | omega | (simp; done) | (simp; omega) | (simp at *; omega)))))))⟩
                  case measure => (simp [intOf]) <;> omega
                · have etu : t = uh + 1 := by omega
                  clear etu
                  go_wp2
                  go_roundw
                  case rel => exact ⟨j + 1, by go_num, by omega, hB2⟩
                  case measure => (simp [intOf]) <;> omega
            · go_wp2
              go_ret
              exact ⟨rfl, hBe⟩
        · clear D1 D2 D3
          go_wp2
          go_ret
          exact ⟨rfl, hBe⟩
      · clear D1 D2 D3
        go_wp2
        go_ret
        exact ⟨rfl, hBe⟩
    · clear D1 D2 D3
      go_wp2
      go_ret
      exact ⟨rfl, hBe⟩
theorem slkG_mem (m : Int) (L : List Wv) (l v a : Int) (N : Nat) (V : List Rg) (hV : rwL a (fun k => slkG m L l v (a + (k : Int))) N = V) (x : Int) : inW V x = true ↔ a ≤ x ∧ x < a + (N : Int) ∧ v ≤ slkV (levLo m L x) (levHi m L x) l := by
  rw [← hV, (rwL_is a (fun k => slkG m L l v (a + (k : Int))) N).mem]
  by_cases h : a ≤ x
  · rw [decide_eq_true h, Bool.true_and, Bool.and_eq_true, decide_eq_true_eq]
    show x < a + (N : Int) ∧ slkG m L l v (a + ((x - a).toNat : Int)) = true ↔ _
    rw [show a + ((x - a).toNat : Int) = x by omega]
    unfold slkG
    rw [decide_eq_true_eq]
    exact ⟨fun h2 => ⟨h, h2.1, h2.2⟩, fun h2 => h2.2⟩
  · rw [decide_eq_false h]
    simp [h]
theorem slkV_2 {x y l : Int} (h : 2 ≤ slkV x y l) : -l ≤ x ∧ y ≤ l := by
  unfold slkV at h
  split at h
  · assumption
  · split at h <;> omega
set_option maxHeartbeats 1000000 in
theorem siteSurely_any (m : Int) (L : List Wv) (A : Option Addr) (cap : Nat) (l a b : Int) (s : Bool) (more : Int) (w : World) (hl : L.length ≤ 9223372036854775807) (CA0 : A = none → cap = 0) (HL : SlRows wvV 3 w A L) :
    Calls Tryz.prog 4 #[.agg #[.int .i64 m, .slice A L.length cap], .agg #[.int .i64 l, .int .i64 a, .int .i64 b, .bool s], .int .i64 more] w fun e w' => e = .returned (.bool true) ∧ Below w.heap.size w w' := by
  have CA : A = none → L.length = 0 ∧ cap = 0 := fun h => ⟨by rcases HL with h1 | ⟨b, off, h1, _⟩ <;> simp_all, CA0 h⟩
  obtain ⟨n, hn⟩ : ∃ n, Hid (n = L.length) := ⟨_, Lib.hid rfl⟩
  have HR : Hid (∀ w' : World, Below w.heap.size w w' → SlRows wvV 3 w' A L) := Lib.hid fun w' hB => HL.below hB
  rw [← hn.out] at CA hl ⊢
  have CA' := Lib.hid CA
  cases hF : fewB n with
  | false => exact sur_few m l a b more s A n cap w hl (Lib.hid hF)
  | true =>
    have h12 : n ≤ 12 := by unfold fewB at hF; simp at hF; omega
    obtain ⟨P, hP⟩ : ∃ P, Hid (spnE a b = P) := ⟨_, Lib.hid rfl⟩
    cases hBr : (P != 0 || decide (b - a < 200)) with
    | false => exact sur_brief m l a b more s L A n cap w hn h12 (Lib.hid hF) HR CA' P hP (Lib.hid hBr)
    | true =>
      obtain ⟨E, hAE⟩ : ∃ E, Hid (askE m L l a b = E) := ⟨_, Lib.hid rfl⟩
      rcases ez2 E with ⟨hz0, hzb⟩ | ⟨hz0, hzb⟩
      · have hA0 : Hid (askE m L l a b = 0) := Lib.hid (by rw [hAE.out, hz0.out])
        obtain ⟨z1, z2, z3⟩ := firE3s hA0.out
        obtain ⟨l0, l1⟩ := rngE_0 z2
        obtain ⟨a0, ab, b1, hs3⟩ := spnE_ok z3
        rcases inB_cases more 0 1000 with h1 | h1
        · obtain ⟨m0, m1⟩ := inB_iff.1 h1
          obtain ⟨k, hk⟩ : ∃ k, Hid (min (l + more) 10000000 = k) := ⟨_, Lib.hid rfl⟩
          have hk2 := hk.out
          have k0 : l ≤ k ∧ k ≤ 10000000 := by omega
          have hAK : Hid (askE m L k a b = 0) := Lib.hid (by unfold askE; rw [z1, z3, rngE_m (by omega) k0.2]; rfl)
          obtain ⟨N, hN⟩ : ∃ N : Nat, Hid ((N : Int) = b - a + 1) := ⟨(b - a + 1).toNat, Lib.hid (by omega)⟩
          obtain ⟨V1, hV1⟩ : ∃ V, Hid (rwL a (fun k => slkG m L l (lstV true) (a + (k : Int))) N = V) := ⟨_, Lib.hid rfl⟩
          obtain ⟨V2, hV2⟩ : ∃ V, Hid (rwL a (fun k => slkG m L l (lstV false) (a + (k : Int))) N = V) := ⟨_, Lib.hid rfl⟩
          obtain ⟨V3, hV3⟩ : ∃ V, Hid (rwL a (fun j => slkG m L k (lstV true) (a + (j : Int))) N = V) := ⟨_, Lib.hid rfl⟩
          have g1 : Gap V1 := by rw [← hV1.out]; exact (rwL_is _ _ _).gap
          have g2 : Gap V2 := by rw [← hV2.out]; exact (rwL_is _ _ _).gap
          have g3 : Gap V3 := by rw [← hV3.out]; exact (rwL_is _ _ _).gap
          have e1 := slkG_mem m L l (lstV true) a N V1 hV1.out
          have e2 := slkG_mem m L l (lstV false) a N V2 hV2.out
          have e3 := slkG_mem m L k (lstV true) a N V3 hV3.out
          have hl12 : ∀ u ∈ V1, lieB V2 u = true := gap_lie g1 g2 (fun x hx => by
            rw [e1] at hx; rw [e2]
            exact ⟨hx.1, hx.2.1, Int.le_trans (show lstV false ≤ lstV true by decide) hx.2.2⟩)
          have hl13 : ∀ u ∈ V1, lieB V3 u = true := gap_lie g1 g3 (fun x hx => by
            rw [e1] at hx; rw [e3]
            exact ⟨hx.1, hx.2.1, Int.le_trans hx.2.2 (slkV_mono k0.1)⟩)
          have hw1 : ∀ u ∈ V1, a ≤ u.lo ∧ u.lo ≤ u.hi ∧ u.hi ≤ b ∧ ∀ t, u.lo ≤ t → t ≤ u.hi → -l ≤ levLo m L t ∧ levHi m L t ≤ l := by
            intro u hu
            have h2 := g1.1 u hu
            have h3 : a ≤ u.lo ∧ u.hi < a + (N : Int) := (rwL_is a (fun k => slkG m L l (lstV true) (a + (k : Int))) N).hi u (by rw [hV1.out]; exact hu)
            have h4 := hN.out
            refine ⟨h3.1, h2, by omega, fun t h5 h6 => ?_⟩
            exact slkV_2 ((e1 t).1 (inW_iff.2 ⟨u, hu, h5, h6⟩)).2.2
          exact sur_main m l a b more s L A n cap w hn h12 (Lib.hid hF) HR CA' P hP (Lib.hid hBr) hA0 (Lib.hid h1) k hk (Lib.hid z1) l0 l1 a0 b1 hAK N hN V1 V2 V3 hV1 hV2 hV3 (Lib.hid hl12) (Lib.hid hl13) (Lib.hid hw1)
        · exact sur_more m l a b more s L A n cap w hn h12 (Lib.hid hF) HR CA' P hP (Lib.hid hBr) hA0 (Lib.hid h1)
      · exact sur_ask m l a b more s L A n cap w hn h12 (Lib.hid hF) HR CA' P E hP (Lib.hid hBr) hAE hzb
end Go.Proofs.YtojaompfffpofaaGreat
