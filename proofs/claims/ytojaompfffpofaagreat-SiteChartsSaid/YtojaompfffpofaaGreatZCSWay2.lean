import Derived.Test.YtojaompfffpofaaGreatZCSWayM
import Derived.Test.YtojaompfffpofaaGreatZCSWnC
import Derived.Outline
namespace Go.Proofs.YtojaompfffpofaaGreat
open Go.ChangeShapes Go.WideShapes Go.ChangeAt Go.RowKit
set_option linter.unusedVariables false
set_option linter.unusedSimpArgs false
attribute [local go_sem ↓] Go.wp_at_zero Go.wp_at_succ
set_option maxRecDepth 100000 in
set_option maxHeartbeats 1000000 in
theorem Way_bad (A B : Option Addr) (n m ca cb : Nat) (a b : Int) (Pl : List ByteArray) (M : List (List Int)) (E : Int) (w : World) (hn : Hid (n = Pl.length)) (hm : Hid (m = M.length)) (hl : n ≤ 1000000) (hl2 : m ≤ 1000000) (hsz : Hid (∀ s ∈ Pl, s.size ≤ 1000000)) (HP : Hid (SlRows strV 1 w A Pl)) (HM : Hid (SlMat w B M)) (hE : Hid (chtE Pl M = E)) (hz : (E != 0) = true) :
    Calls Tryz.prog 43 #[.agg #[.slice A n ca, .slice B m cb], .int .i64 a, .int .i64 b] w fun e w' => e = .returned (.tuple #[.slice none 0 0, .int .i64 0, .int .i64 E]) ∧ Below w.heap.size w w' := by
  have iz : ¬ E = 0 := by simpa using hz
  go_enter Tryz.func43, Tryz.ntmps43
  go_wp2_with fail
  refine (CheckChart_any A B n m ca cb Pl M E _ hn hm hl hl2 hsz (Lib.hid (HP.out.below (by (repeat (first | (with_reducible refine Below.drew ?_) | (with_reducible refine below_drewN ?_ _) | (with_reducible refine Below.alloc ?_ (by first | omega | (simp; done) | (simp; omega) | (simp at *; omega)) _) | (with_reducible refine Below.setCell ?_ (by first | omega | (simp; done) | (simp; omega) | (simp at *; omega)) _) | (with_reducible exact Below.refl _ _) | (with_reducible assumption) | (with_reducible refine Below.trans ?_ (Below.mono (by assumption) (by first | omega | (simp; done) | (simp; omega) | (simp at *; omega))))))))) (Lib.hid (HM.out.below (by (repeat (first | (with_reducible refine Below.drew ?_) | (with_reducible refine below_drewN ?_ _) | (with_reducible refine Below.alloc ?_ (by first | omega | (simp; done) | (simp; omega) | (simp at *; omega)) _) | (with_reducible refine Below.setCell ?_ (by first | omega | (simp; done) | (simp; omega) | (simp at *; omega)) _) | (with_reducible exact Below.refl _ _) | (with_reducible assumption) | (with_reducible refine Below.trans ?_ (Below.mono (by assumption) (by first | omega | (simp; done) | (simp; omega) | (simp at *; omega))))))))) hE).mono ?_
  rintro e y1 ⟨rfl, hb1⟩
  have hB1 : Below w.heap.size w y1 := (by (repeat (first | (with_reducible refine Below.drew ?_) | (with_reducible refine below_drewN ?_ _) | (with_reducible refine Below.alloc ?_ (by first | omega | (simp; done) | (simp; omega) | (simp at *; omega)) _) | (with_reducible refine Below.setCell ?_ (by first | omega | (simp; done) | (simp; omega) | (simp at *; omega)) _) | (with_reducible exact Below.refl _ _) | (with_reducible assumption) | (with_reducible refine Below.trans ?_ (Below.mono (by assumption) (by first | omega | (simp; done) | (simp; omega) | (simp at *; omega)))))))
  clear hb1
  go_wp2
  exact bodyPost_ret (v := .tuple #[.slice none 0 0, .int .i64 0, .int .i64 E]) (by simp [results, Tryz.results43, go_sem, *]) rfl ⟨rfl, hB1⟩
set_option maxRecDepth 100000 in
set_option maxHeartbeats 4000000 in
theorem Way_place (A B : Option Addr) (n ca cb : Nat) (Pl : List ByteArray) (M : List (List Int)) (a b F G E : Int) (w : World) (hC0 : Hid (chtE Pl M = 0)) (hl : n ≤ 12) (HC : Hid (ChSl w A B n Pl M)) (hF : Hid (plcE n a = F)) (hG : Hid (plcE n b = G)) (hE : Hid (firE [F, G] = E)) (hz : (E != 0) = true) :
    Calls Tryz.prog 43 #[.agg #[.slice A n ca, .slice B n cb], .int .i64 a, .int .i64 b] w fun e w' => e = .returned (.tuple #[.slice none 0 0, .int .i64 0, .int .i64 E]) ∧ Below w.heap.size w w' := by
  have iz : ¬ E = 0 := by simpa using hz
  have hB0 : Below w.heap.size w (w.alloc (.cells #[.slice A n ca, .slice B n cb] 78)) := (Below.refl _ _).alloc (Nat.le_refl _) _
  have HC0 := Lib.hid (HC.out.below hB0)
  clear hB0
  go_enter Tryz.func43, Tryz.ntmps43
  go_wp2_with fail
  refine (CheckChart_any A B n n ca cb Pl M 0 _ (Lib.hid HC0.out.hn) (Lib.hid (by rw [HC0.out.ok.len]; exact HC0.out.hn)) (by omega) (by omega) (Lib.hid HC0.out.ok.siz) (Lib.hid HC0.out.pl) (Lib.hid HC0.out.mn) hC0).mono ?_
  rintro e y1 ⟨rfl, hb1⟩
  have hB1 : Below w.heap.size w y1 := (by (repeat (first | (with_reducible refine Below.drew ?_) | (with_reducible refine below_drewN ?_ _) | (with_reducible refine Below.alloc ?_ (by first | omega | (simp; done) | (simp; omega) | (simp at *; omega)) _) | (with_reducible refine Below.setCell ?_ (by first | omega | (simp; done) | (simp; omega) | (simp at *; omega)) _) | (with_reducible exact Below.refl _ _) | (with_reducible assumption) | (with_reducible refine Below.trans ?_ (Below.mono (by assumption) (by first | omega | (simp; done) | (simp; omega) | (simp at *; omega)))))))
  have z1 := hb1.size
  try simp at z1
  have q1_0 : y1.cell? ⟨w.heap.size, 0, none⟩ = some (.slice A n ca) := by rw [(bcell hb1).1 _ _ (by simp)]; simp [go_sem]
  have q1_1 : y1.cell? ⟨w.heap.size, 1, none⟩ = some (.slice B n cb) := by rw [(bcell hb1).1 _ _ (by simp)]; simp [go_sem]
  have o1 : w.heap.size < y1.heap.size := by omega
  have m1 : y1.heap.size ≠ w.heap.size := by omega
  clear hb1
  go_upto_region 4 with (fail)
  refine wp_region_held_drew (S := (fun w' => w'.cell? ⟨w.heap.size, 0, none⟩ = some (.slice A n ca) ∧ w'.cell? ⟨w.heap.size, 1, none⟩ = some (.slice B n cb))) (by kernel_rfl) (by simp [go_sem, World.cell?_alloc_past, *]) (fun hHeld => ?_)
  refine tkH 0 ⟨some 17, _, _, _, _, _⟩ ?_ rfl ?_ (by assumption) ?_
  rotate_left
  · (intro w hSw; (try dsimp only at hSw); go_simp; all_goals with_reducible rfl)
  try simp only [Act.put, sA, sB, sC]
  refine tkH 1 ⟨some 18, _, _, _, _, _⟩ ?_ rfl ?_ (by assumption) ?_
  rotate_left
  · (intro w hSw; (try dsimp only at hSw); go_simp; all_goals with_reducible rfl)
  try simp only [Act.put, sA, sB, sC]
  refine tkH 3 ⟨some 20, _, _, _, _, _⟩ ?_ rfl ?_ (by assumption) ?_
  rotate_left
  · (intro w hSw; (try dsimp only at hSw); go_simp; all_goals with_reducible rfl)
  try simp only [Act.put, sA, sB, sC]
  refine tkH 4 ⟨some 21, _, _, _, _, _⟩ ?_ rfl ?_ (by assumption) ?_
  rotate_left
  · (intro w hSw; (try dsimp only at hSw); go_simp; all_goals with_reducible rfl)
  try simp only [Act.put, sA, sB, sC]
  refine wpAnyH_ready (rs := [2]) (by kernel_rfl) (by simp) ?_
  refine AllReadyH.cons rfl (fun K hK => ?_) AllReadyH.nil
  go_simp
  refine (place_is A B n ca cb a F _ (by omega) hF).mono ?_
  rintro e y2 ⟨rfl, hb2⟩
  have hB2 : Below w.heap.size w y2 := (by (repeat (first | (with_reducible refine Below.drew ?_) | (with_reducible refine below_drewN ?_ _) | (with_reducible refine Below.alloc ?_ (by first | omega | (simp; done) | (simp; omega) | (simp at *; omega)) _) | (with_reducible refine Below.setCell ?_ (by first | omega | (simp; done) | (simp; omega) | (simp at *; omega)) _) | (with_reducible exact Below.refl _ _) | (with_reducible assumption) | (with_reducible refine Below.trans ?_ (Below.mono (by assumption) (by first | omega | (simp; done) | (simp; omega) | (simp at *; omega)))))))
  have z2 := hb2.size
  try simp at z2
  have q2_0 : y2.cell? ⟨w.heap.size, 0, none⟩ = some (.slice A n ca) := by rw [(bcell hb2).1 _ _ (by first | (simp; done) | (simp; omega) | omega)]; simp [go_sem, *]
  have q2_1 : y2.cell? ⟨w.heap.size, 1, none⟩ = some (.slice B n cb) := by rw [(bcell hb2).1 _ _ (by first | (simp; done) | (simp; omega) | omega)]; simp [go_sem, *]
  have o2 : w.heap.size < y2.heap.size := by omega
  have m2 : y2.heap.size ≠ w.heap.size := by omega
  clear hb2 q1_0 q1_1 o1 m1
  go_wp2_with fail
  refine hK.out _ _ (by simp [go_sem, World.cell?_alloc_past, *]) (fun hHeld => ?_)
  clear hK K
  try simp only [Act.put, sA, sB, sC]
  refine wpAnyH_ready (rs := [5]) (by kernel_rfl) (by simp) ?_
  refine AllReadyH.cons rfl (fun K hK => ?_) AllReadyH.nil
  go_simp
  refine (place_is A B n ca cb b G _ (by omega) hG).mono ?_
  rintro e y3 ⟨rfl, hb3⟩
  have hB3 : Below w.heap.size w y3 := (by (repeat (first | (with_reducible refine Below.drew ?_) | (with_reducible refine below_drewN ?_ _) | (with_reducible refine Below.alloc ?_ (by first | omega | (simp; done) | (simp; omega) | (simp at *; omega)) _) | (with_reducible refine Below.setCell ?_ (by first | omega | (simp; done) | (simp; omega) | (simp at *; omega)) _) | (with_reducible exact Below.refl _ _) | (with_reducible assumption) | (with_reducible refine Below.trans ?_ (Below.mono (by assumption) (by first | omega | (simp; done) | (simp; omega) | (simp at *; omega)))))))
  have z3 := hb3.size
  try simp at z3
  have q3_0 : y3.cell? ⟨w.heap.size, 0, none⟩ = some (.slice A n ca) := by rw [(bcell hb3).1 _ _ (by first | (simp; done) | (simp; omega) | omega)]; simp [go_sem, *]
  have q3_1 : y3.cell? ⟨w.heap.size, 1, none⟩ = some (.slice B n cb) := by rw [(bcell hb3).1 _ _ (by first | (simp; done) | (simp; omega) | omega)]; simp [go_sem, *]
  have o3 : w.heap.size < y3.heap.size := by omega
  have m3 : y3.heap.size ≠ w.heap.size := by omega
  clear hb3 q2_0 q2_1 o2 m2
  go_wp2_with fail
  refine hK.out _ _ (by simp [go_sem, World.cell?_alloc_past, *]) (fun hHeld => ?_)
  clear hK K
  try simp only [Act.put, sA, sB, sC]
  refine wpAnyH_ready (rs := [6]) (by kernel_rfl) (by simp) ?_
  refine AllReadyH.cons rfl (fun K hK => ?_) AllReadyH.nil
  go_simp
  go_wp2_with fail
  refine hK.out _ _ (by simp [go_sem, World.cell?_alloc_past, *]) (fun hHeld => ?_)
  clear hK K
  try simp only [Act.put, sA, sB, sC]
  refine wpAnyH_ready (rs := [7]) (by kernel_rfl) (by simp) ?_
  refine AllReadyH.cons rfl (fun K hK => ?_) AllReadyH.nil
  go_simp
  refine (cF2x F G E _ _ hE (by simp [go_sem]) (by simp [go_sem])).mono ?_
  rintro e w' ⟨rfl, rfl⟩
  go_wp2_with fail
  refine hK.out _ _ (by simp [go_sem, World.cell?_alloc_past, *]) (fun hHeld => ?_)
  clear hK K
  try simp only [Act.put, sA, sB, sC]
  refine tkH 8 ⟨some 10, _, _, _, _, _⟩ ?_ rfl ?_ (by assumption) ?_
  rotate_left
  · (intro w hSw; (try dsimp only at hSw); go_simp; all_goals with_reducible rfl)
  try simp only [Act.put, sA, sB, sC]
  refine wpAnyH_done (by kernel_rfl) ?_ _
  go_wp2
  exact bodyPost_ret (v := .tuple #[.slice none 0 0, .int .i64 0, .int .i64 E]) (by simp [results, Tryz.results43, go_sem, *]) rfl ⟨rfl, hB3.trans ((show Below y3.heap.size y3 _ from (by (repeat (first | (with_reducible refine Below.drew ?_) | (with_reducible refine below_drewN ?_ _) | (with_reducible refine Below.alloc ?_ (by first | omega | (simp; done) | (simp; omega) | (simp at *; omega)) _) | (with_reducible refine Below.setCell ?_ (by first | omega | (simp; done) | (simp; omega) | (simp at *; omega)) _) | (with_reducible exact Below.refl _ _) | (with_reducible assumption) | (with_reducible refine Below.trans ?_ (Below.mono (by assumption) (by first | omega | (simp; done) | (simp; omega) | (simp at *; omega)))))))).mono hB3.size)⟩
set_option maxRecDepth 100000 in
set_option maxHeartbeats 4000000 in
theorem Way_none (A B : Option Addr) (n ca cb : Nat) (Pl : List ByteArray) (M : List (List Int)) (fr to_ : Nat) (w : World) (hl0 : 0 < n) (hl : n ≤ 12) (HC : Hid (ChSl w A B n Pl M)) (hf : fr < n) (ht : to_ < n) (hP : Hid (((gRnd (gZero n fr) M n n).getD to_ default).ps = [])) :
    Calls Tryz.prog 43 #[.agg #[.slice A n ca, .slice B n cb], .int .i64 fr, .int .i64 to_] w fun e w' => e = .returned (.tuple #[.slice none 0 0, .int .i64 0, .int .i64 12]) ∧ Below w.heap.size w w' := by
  have tn : (to_ : Int) < (n : Int) := by omega
  have E0 := eqI0
  have hB0 : Below w.heap.size w (w.alloc (.cells #[.slice A n ca, .slice B n cb] 78)) := (Below.refl _ _).alloc (Nat.le_refl _) _
  have HC0 := Lib.hid (HC.out.below hB0)
  clear hB0
  go_enter Tryz.func43, Tryz.ntmps43
  go_wp2_with fail
  refine (CheckChart_ok A B n ca cb Pl M _ hl0 hl HC0).mono ?_
  rintro e y1 ⟨rfl, hb1⟩
  have hB1 : Below w.heap.size w y1 := (by (repeat (first | (with_reducible refine Below.drew ?_) | (with_reducible refine below_drewN ?_ _) | (with_reducible refine Below.alloc ?_ (by first | omega | (simp; done) | (simp; omega) | (simp at *; omega)) _) | (with_reducible refine Below.setCell ?_ (by first | omega | (simp; done) | (simp; omega) | (simp at *; omega)) _) | (with_reducible exact Below.refl _ _) | (with_reducible assumption) | (with_reducible refine Below.trans ?_ (Below.mono (by assumption) (by first | omega | (simp; done) | (simp; omega) | (simp at *; omega)))))))
  have z1 := hb1.size
  try simp at z1
  have q1_0 : y1.cell? ⟨w.heap.size, 0, none⟩ = some (.slice A n ca) := by rw [(bcell hb1).1 _ _ (by simp)]; simp [go_sem]
  have q1_1 : y1.cell? ⟨w.heap.size, 1, none⟩ = some (.slice B n cb) := by rw [(bcell hb1).1 _ _ (by simp)]; simp [go_sem]
  have o1 : w.heap.size < y1.heap.size := by omega
  have m1 : y1.heap.size ≠ w.heap.size := by omega
  clear hb1
  go_upto_region 4 with (fail)
  refine wp_region_held_drew (S := (fun w' => w'.cell? ⟨w.heap.size, 0, none⟩ = some (.slice A n ca) ∧ w'.cell? ⟨w.heap.size, 1, none⟩ = some (.slice B n cb))) (by kernel_rfl) (by simp [go_sem, World.cell?_alloc_past, *]) (fun hHeld => ?_)
  refine tkH 0 ⟨some 17, _, _, _, _, _⟩ ?_ rfl ?_ (by assumption) ?_
  rotate_left
  · (intro w hSw; (try dsimp only at hSw); go_simp; all_goals with_reducible rfl)
  try simp only [Act.put, sA, sB, sC]
  refine tkH 1 ⟨some 18, _, _, _, _, _⟩ ?_ rfl ?_ (by assumption) ?_
  rotate_left
  · (intro w hSw; (try dsimp only at hSw); go_simp; all_goals with_reducible rfl)
  try simp only [Act.put, sA, sB, sC]
  refine tkH 3 ⟨some 20, _, _, _, _, _⟩ ?_ rfl ?_ (by assumption) ?_
  rotate_left
  · (intro w hSw; (try dsimp only at hSw); go_simp; all_goals with_reducible rfl)
  try simp only [Act.put, sA, sB, sC]
  refine tkH 4 ⟨some 21, _, _, _, _, _⟩ ?_ rfl ?_ (by assumption) ?_
  rotate_left
  · (intro w hSw; (try dsimp only at hSw); go_simp; all_goals with_reducible rfl)
  try simp only [Act.put, sA, sB, sC]
  refine wpAnyH_ready (rs := [2]) (by kernel_rfl) (by simp) ?_
  refine AllReadyH.cons rfl (fun K hK => ?_) AllReadyH.nil
  go_simp
  refine (place_is A B n ca cb fr 0 _ (by omega) (Lib.hid (plcE_in (by omega) (by omega)))).mono ?_
  rintro e y2 ⟨rfl, hb2⟩
  have hB2 : Below w.heap.size w y2 := (by (repeat (first | (with_reducible refine Below.drew ?_) | (with_reducible refine below_drewN ?_ _) | (with_reducible refine Below.alloc ?_ (by first | omega | (simp; done) | (simp; omega) | (simp at *; omega)) _) | (with_reducible refine Below.setCell ?_ (by first | omega | (simp; done) | (simp; omega) | (simp at *; omega)) _) | (with_reducible exact Below.refl _ _) | (with_reducible assumption) | (with_reducible refine Below.trans ?_ (Below.mono (by assumption) (by first | omega | (simp; done) | (simp; omega) | (simp at *; omega)))))))
  have z2 := hb2.size
  try simp at z2
  have q2_0 : y2.cell? ⟨w.heap.size, 0, none⟩ = some (.slice A n ca) := by rw [(bcell hb2).1 _ _ (by first | (simp; done) | (simp; omega) | omega)]; simp [go_sem, *]
  have q2_1 : y2.cell? ⟨w.heap.size, 1, none⟩ = some (.slice B n cb) := by rw [(bcell hb2).1 _ _ (by first | (simp; done) | (simp; omega) | omega)]; simp [go_sem, *]
  have o2 : w.heap.size < y2.heap.size := by omega
  have m2 : y2.heap.size ≠ w.heap.size := by omega
  clear hb2 q1_0 q1_1 o1 m1
  go_wp2_with fail
  refine hK.out _ _ (by simp [go_sem, World.cell?_alloc_past, *]) (fun hHeld => ?_)
  clear hK K
  try simp only [Act.put, sA, sB, sC]
  refine wpAnyH_ready (rs := [5]) (by kernel_rfl) (by simp) ?_
  refine AllReadyH.cons rfl (fun K hK => ?_) AllReadyH.nil
  go_simp
  refine (place_is A B n ca cb to_ 0 _ (by omega) (Lib.hid (plcE_in (by omega) (by omega)))).mono ?_
  rintro e y3 ⟨rfl, hb3⟩
  have hB3 : Below w.heap.size w y3 := (by (repeat (first | (with_reducible refine Below.drew ?_) | (with_reducible refine below_drewN ?_ _) | (with_reducible refine Below.alloc ?_ (by first | omega | (simp; done) | (simp; omega) | (simp at *; omega)) _) | (with_reducible refine Below.setCell ?_ (by first | omega | (simp; done) | (simp; omega) | (simp at *; omega)) _) | (with_reducible exact Below.refl _ _) | (with_reducible assumption) | (with_reducible refine Below.trans ?_ (Below.mono (by assumption) (by first | omega | (simp; done) | (simp; omega) | (simp at *; omega)))))))
  have z3 := hb3.size
  try simp at z3
  have q3_0 : y3.cell? ⟨w.heap.size, 0, none⟩ = some (.slice A n ca) := by rw [(bcell hb3).1 _ _ (by first | (simp; done) | (simp; omega) | omega)]; simp [go_sem, *]
  have q3_1 : y3.cell? ⟨w.heap.size, 1, none⟩ = some (.slice B n cb) := by rw [(bcell hb3).1 _ _ (by first | (simp; done) | (simp; omega) | omega)]; simp [go_sem, *]
  have o3 : w.heap.size < y3.heap.size := by omega
  have m3 : y3.heap.size ≠ w.heap.size := by omega
  clear hb3 q2_0 q2_1 o2 m2
  go_wp2_with fail
  refine hK.out _ _ (by simp [go_sem, World.cell?_alloc_past, *]) (fun hHeld => ?_)
  clear hK K
  try simp only [Act.put, sA, sB, sC]
  refine wpAnyH_ready (rs := [6]) (by kernel_rfl) (by simp) ?_
  refine AllReadyH.cons rfl (fun K hK => ?_) AllReadyH.nil
  go_simp
  go_wp2_with fail
  refine hK.out _ _ (by simp [go_sem, World.cell?_alloc_past, *]) (fun hHeld => ?_)
  clear hK K
  try simp only [Act.put, sA, sB, sC]
  refine wpAnyH_ready (rs := [7]) (by kernel_rfl) (by simp) ?_
  refine AllReadyH.cons rfl (fun K hK => ?_) AllReadyH.nil
  go_simp
  refine (cF2x 0 0 0 _ _ (Lib.hid rfl) (by simp [go_sem]) (by simp [go_sem])).mono ?_
  rintro e w' ⟨rfl, rfl⟩
  go_wp2_with fail
  refine hK.out _ _ (by simp [go_sem, World.cell?_alloc_past, *]) (fun hHeld => ?_)
  clear hK K
  try simp only [Act.put, sA, sB, sC]
  refine tkH 8 ⟨some 10, _, _, _, _, _⟩ ?_ rfl ?_ (by assumption) ?_
  rotate_left
  · (intro w hSw; (try dsimp only at hSw); go_simp; all_goals with_reducible rfl)
  try simp only [Act.put, sA, sB, sC]
  refine wpAnyH_done (by kernel_rfl) ?_ _
  have HC3 := Lib.hid (HC.out.below hB3)
  go_wp2_with fail
  refine (tripsFrom_is A B n ca cb fr Pl M _ hl0 hl (Lib.hid (HC3.out.below (by (repeat (first | (with_reducible refine Below.drew ?_) | (with_reducible refine below_drewN ?_ _) | (with_reducible refine Below.alloc ?_ (by first | omega | (simp; done) | (simp; omega) | (simp at *; omega)) _) | (with_reducible refine Below.setCell ?_ (by first | omega | (simp; done) | (simp; omega) | (simp at *; omega)) _) | (with_reducible exact Below.refl _ _) | (with_reducible assumption) | (with_reducible refine Below.trans ?_ (Below.mono (by assumption) (by first | omega | (simp; done) | (simp; omega) | (simp at *; omega))))))))) hf).mono ?_
  rintro e v1 ⟨tb, rfl, htr, htb, hb4⟩
  have hBv : Below w.heap.size w v1 := (by (repeat (first | (with_reducible refine Below.drew ?_) | (with_reducible refine below_drewN ?_ _) | (with_reducible refine Below.alloc ?_ (by first | omega | (simp; done) | (simp; omega) | (simp at *; omega)) _) | (with_reducible refine Below.setCell ?_ (by first | omega | (simp; done) | (simp; omega) | (simp at *; omega)) _) | (with_reducible exact Below.refl _ _) | (with_reducible assumption) | (with_reducible refine Below.trans ?_ (Below.mono (by assumption) (by first | omega | (simp; done) | (simp; omega) | (simp at *; omega)))))))
  obtain ⟨r1, r2⟩ := htr.row to_ (by rw [gRnd_len, gZero_len]; exact ht)
  have hlt := htr.lt
  rcases r2 with ⟨_, r2⟩ | ⟨hn, _⟩
  · have HB := Lib.hid hBv
    clear htr hb4 hBv q3_0 q3_1
    go_wp2
    exact bodyPost_ret (v := .tuple #[.slice none 0 0, .int .i64 0, .int .i64 12]) (by simp [results, Tryz.results43, go_sem, *]) rfl ⟨rfl, HB.out.trans ((show Below v1.heap.size v1 _ from (by (repeat (first | (with_reducible refine Below.drew ?_) | (with_reducible refine below_drewN ?_ _) | (with_reducible refine Below.alloc ?_ (by first | omega | (simp; done) | (simp; omega) | (simp at *; omega)) _) | (with_reducible refine Below.setCell ?_ (by first | omega | (simp; done) | (simp; omega) | (simp at *; omega)) _) | (with_reducible exact Below.refl _ _) | (with_reducible assumption) | (with_reducible refine Below.trans ?_ (Below.mono (by assumption) (by first | omega | (simp; done) | (simp; omega) | (simp at *; omega)))))))).mono HB.out.size)⟩
  · exact absurd hP.out hn
end Go.Proofs.YtojaompfffpofaaGreat
