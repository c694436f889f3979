import Derived.Test.YtojaompfffpofaaGreatZCSRun2
import Derived.Test.YtojaompfffpofaaGreatZCSJoin
import Derived.Test.YtojaompfffpofaaGreatZCSApp
import Derived.ChangeKeysEq
import Derived.Outline
namespace Go.Proofs.YtojaompfffpofaaGreat
open Go.ChangeShapes Go.WideShapes Go.ChangeAt Go.RowKit
set_option linter.unusedVariables false
set_option linter.unusedSimpArgs false
attribute [local go_sem ↓] Go.wp_at_zero Go.wp_at_succ
/-- What RunTimes returns at a right run. -/
def RtmP (L : List (Int × Int)) (l : Nat) (w : World) (e : Ending) (w' : World) : Prop := ∃ g cap, e = .returned (.tuple #[.slice (some ⟨g, 0, none⟩) l cap, .int .i64 0]) ∧ g < w'.heap.size ∧ RowsAt prV 2 w' g 0 L ∧ Below w.heap.size w w'
set_option maxRecDepth 100000 in
set_option maxHeartbeats 1000000 in
theorem RunTimes_ok (A B Aq As : Option Addr) (n ca cb l cq cs : Nat) (Pl : List ByteArray) (M : List (List Int)) (bg : Int) (Q Z : List Int) (w : World) (hl0 : 0 < n) (hl : n ≤ 12) (HR : Hid (RnSl w A B Aq As n l Pl M bg Q Z)) :
    Calls Tryz.prog 50 #[.agg #[.slice A n ca, .slice B n cb], .agg #[.int .i64 bg, .slice Aq l cq, .slice As l cs]] w (RtmP (tmsL M bg Q Z l) l w) := by
  go_enter Tryz.func50, Tryz.ntmps50
  go_upto_region 1 with (fail)
  refine wp_world (RnU w A B Aq As n ca cb l cq cs bg w.heap.size (w.heap.size + 1)) (RnU.boxes w A B Aq As n ca cb l cq cs bg) (fun u hu => ?_)
  have HU := Lib.hid hu
  obtain ⟨c0, c1, r0, r1, r2, lc, lr, be⟩ := hu
  have HRU := Lib.hid (HR.out.below be)
  have HBE := Lib.hid be
  clear be HR
  generalize w.heap.size + 1 = br at *
  have HBE2 : Hid (∀ x, Below u.heap.size u x → BelS w x) := Lib.hid fun x hx => HBE.out.trans (hx.mono HBE.out.size)
  generalize w.heap.size = bc at *
  have HCH := Lib.hid HRU.out.ch
  go_wp2_with fail
  refine (CheckChart_ok A B n ca cb Pl M _ hl0 hl HCH).mono ?_
  rintro e y1 ⟨rfl, hb1⟩
  have HR1 := Lib.hid (HRU.out.below hb1)
  have HB1 := Lib.hid hb1
  clear c0 c1 r0 r1 r2 lc lr
  obtain ⟨c0, c1, r0, r1, r2, lc, lr, _⟩ := HU.out.step hb1
  clear hb1
  go_wp2_with fail
  refine (checkRun_ok A B Aq As n ca cb l cq cs Pl M bg Q Z _ hl HR1).mono ?_
  rintro e y2 ⟨rfl, hb2⟩
  have hB2 : Below u.heap.size u y2 := HB1.out.trans (hb2.mono HB1.out.size)
  have HR2 := Lib.hid (HRU.out.below hB2)
  have HB2 := Lib.hid hB2
  clear c0 c1 r0 r1 r2 lc lr hb2
  obtain ⟨c0, c1, r0, r1, r2, lc, lr, _⟩ := HU.out.step hB2
  clear hB2
  go_wp2_with fail
  refine (timesOf_is A B Aq As n ca cb l cq cs Pl M bg Q Z _ hl HR2).mono ?_
  rintro e y3 ⟨g, cap, rfl, hg, hr, hb3⟩
  have HG := Lib.hid hr
  have HB3 := Lib.hid (HBE2.out _ (HB2.out.trans (hb3.mono HB2.out.size)))
  clear hr hb3
  go_wp2
  go_ret2
  exact ⟨g, cap, rfl, hg, HG.out, HB3.out⟩
def exPl : List ByteArray := [⟨#[97]⟩, ⟨#[98]⟩, ⟨#[99]⟩]
def exM : List (List Int) := [[0, 10, 30], [10, 0, 10], [30, 10, 0]]
theorem ex_ch : ChOk exPl exM where
  n12 := by decide
  nms := by decide +kernel
  siz := by decide +kernel
  len := rfl
  row := by decide +kernel
  bnd := by
    have h : ∀ i, i < 3 → ∀ j, j < 3 → -1 ≤ mAt exM i j ∧ mAt exM i j ≤ 10000 := by decide +kernel
    intro i j hi hj; exact h i hi j hj
  dia := by decide +kernel
def ChP (w : World) (e : Ending) (w' : World) : Prop := ∃ A B, e = .returned (.agg #[.slice A 3 3, .slice B 3 3]) ∧ ChSl w' A B 3 exPl exM ∧ Below w.heap.size w w'
theorem three {P : Nat → Prop} (h0 : P 0) (h1 : P 1) (h2 : P 2) : ∀ k, k < 3 → P k := by
  intro k hk
  rcases (show k = 0 ∨ k = 1 ∨ k = 2 by omega) with rfl | rfl | rfl <;> assumption
set_option maxRecDepth 100000 in
set_option maxHeartbeats 1000000 in
theorem Chart_is (w : World) : Calls Tryz.prog 63 #[] w (ChP w) := by
  go_enter Tryz.func63, Tryz.ntmps63
  go_wp2
  refine bodyPost_ret (v := .agg #[.slice (some ⟨w.heap.size + 1, 0, none⟩) 3 3, .slice (some ⟨w.heap.size + 1 + 1 + 1 + 1 + 1, 0, none⟩) 3 3]) (by simp [results, Tryz.results63, go_sem, World.cell?_alloc_past]) rfl ⟨_, _, rfl, ⟨rfl, ex_ch, ?_, ?_⟩, (by (repeat (first | (with_reducible refine Below.drew ?_) | (with_reducible refine below_drewN ?_ _) | (with_reducible refine Below.alloc ?_ (by first | omega | (simp; done) | (simp; omega) | (simp at *; omega)) _) | (with_reducible refine Below.setCell ?_ (by first | omega | (simp; done) | (simp; omega) | (simp at *; omega)) _) | (with_reducible exact Below.refl _ _) | (with_reducible assumption) | (with_reducible refine Below.trans ?_ (Below.mono (by assumption) (by first | omega | (simp; done) | (simp; omega) | (simp at *; omega)))))))⟩
  · refine Or.inr ⟨_, 0, rfl, (by first | (simp; done) | (simp; omega)), ?_⟩
    intro k hk i hi
    obtain rfl : i = 0 := by omega
    have hk3 : k < 3 := hk
    rcases (show k = 0 ∨ k = 1 ∨ k = 2 by omega) with rfl | rfl | rfl <;> simp [go_sem, World.cell?_alloc_past, exPl, strV]
  · refine Or.inr ⟨_, 0, rfl, by simp, ?_⟩
    have row : ∀ (R : List Int) (b : Nat) (X : World), R.length = 3 → b < X.heap.size → (∀ j, j < 3 → X.cell? ⟨b, j, none⟩ = some (.int .i64 (R.getD j 0))) → SlRows intV 1 X (some ⟨b, 0, none⟩) R := by
      intro R b X hR hb h
      refine Or.inr ⟨b, 0, rfl, hb, fun k hk i hi => ?_⟩
      obtain rfl : i = 0 := by omega
      rw [Nat.mul_one, Nat.add_zero, Nat.zero_add, h k (by omega), getD_at hk]; rfl
    refine three ?_ ?_ ?_
    · exact ⟨some ⟨w.heap.size + 1 + 1, 0, none⟩, 3, by simp [go_sem, World.cell?_alloc_past, exM], row _ _ _ rfl (by first | (simp; done) | (simp; omega)) (three (by simp [go_sem, World.cell?_alloc_past, exM]) (by simp [go_sem, World.cell?_alloc_past, exM]) (by simp [go_sem, World.cell?_alloc_past, exM]))⟩
    · exact ⟨some ⟨w.heap.size + 1 + 1 + 1, 0, none⟩, 3, by simp [go_sem, World.cell?_alloc_past, exM], row _ _ _ rfl (by first | (simp; done) | (simp; omega)) (three (by simp [go_sem, World.cell?_alloc_past, exM]) (by simp [go_sem, World.cell?_alloc_past, exM]) (by simp [go_sem, World.cell?_alloc_past, exM]))⟩
    · exact ⟨some ⟨w.heap.size + 1 + 1 + 1 + 1, 0, none⟩, 3, by simp [go_sem, World.cell?_alloc_past, exM], row _ _ _ rfl (by simp) (three (by simp [go_sem, World.cell?_alloc_past, exM]) (by simp [go_sem, World.cell?_alloc_past, exM]) (by simp [go_sem, World.cell?_alloc_past, exM]))⟩
theorem ex_way : ((gRnd (gZero 3 0) exM 3 3).getD 2 default).ps = [0, 1, 2] ∧ ((gRnd (gZero 3 0) exM 3 3).getD 2 default).mi = 20 := by decide +kernel
def exQ : List Int := [0, 1, 2]
def exZ : List Int := [0, 5, 5]
theorem ex_run : RunOk 3 exM 100 exQ exZ where
  l0 := by decide
  l12 := by decide
  ls := rfl
  b0 := by decide
  b1 := by decide
  q := by
    refine three ⟨0, by decide, rfl⟩ ⟨1, by decide, rfl⟩ ⟨2, by decide, rfl⟩
  s := by decide +kernel
  gap := by
    have h : ∀ i, i < 2 → mAt exM (exQ.getD i 0).toNat (exQ.getD (i + 1) 0).toNat ≠ -1 := by decide +kernel
    intro i hi; exact h i (by have : exQ.length = 3 := rfl; omega)
theorem ex_tms : tmsL exM 100 exQ exZ 3 = [(100, 100), (110, 115), (125, 130)] := by decide +kernel
theorem rowInt {R : List Int} {b : Nat} {X : World} (hR : R.length = 3) (hb : b < X.heap.size) (h : ∀ j, j < 3 → X.cell? ⟨b, j, none⟩ = some (.int .i64 (R.getD j 0))) : SlRows intV 1 X (some ⟨b, 0, none⟩) R := by
  refine Or.inr ⟨b, 0, rfl, hb, fun k hk i hi => ?_⟩
  obtain rfl : i = 0 := by omega
  rw [Nat.mul_one, Nat.add_zero, Nat.zero_add, h k (by omega), getD_at hk]; rfl
/-! ### Two arrays of two numbers are the same -/
theorem part2a (a b : Int) (w : World) : (part 3 #[.int .i64 a, .int .i64 b] 0).run Tryz.prog w = .ok (.int .i64 a) w := by kernel_rfl
theorem part2b (a b : Int) (w : World) : (part 3 #[.int .i64 a, .int .i64 b] 1).run Tryz.prog w = .ok (.int .i64 b) w := by kernel_rfl
theorem info2 : ∃ i, Tryz.prog.info? 3 = some i := Option.isSome_iff_exists.1 (by kernel_rfl)
theorem cells2 : Tryz.prog.cellsOf 3 = 1 := by kernel_rfl
theorem undI2 (w : World) : (underlying 3).run Tryz.prog w = .ok (.int .i64) w := by kernel_rfl
theorem eqInt2 (d : Nat) (a : Int) (w : World) : (Op.equalIn (d + 1) 3 (.int .i64 a) (.int .i64 a)).run Tryz.prog w = .ok true w := by
  simp only [Op.equalIn, Sem.run_bind, undI2, Result.andThen]
  simp
theorem eqArr2 (a b : Int) (w : World) : (Op.equal 79 (.agg #[.int .i64 a, .int .i64 b]) (.agg #[.int .i64 a, .int .i64 b])).run Tryz.prog w = .ok true w := by
  obtain ⟨i, hi⟩ := info2
  have h := run_equalIn_array (P := Tryz.prog) (w := w) 9999 (t := 79) (e := 3) (n := 2) #[.int .i64 a, .int .i64 b] #[.int .i64 a, .int .i64 b] Tryz.underlying79 hi
  refine h.trans ?_
  rw [cells2, show List.range 2 = [0, 1] from rfl]
  simp [Op.eqItems, Sem.run_bind, part2a, part2b, eqInt2 9998]
theorem eqArr2In (a b : Int) (w : World) : (Op.equalIn 10000 79 (.agg #[.int .i64 a, .int .i64 b]) (.agg #[.int .i64 a, .int .i64 b])).run Tryz.prog w = .ok true w := eqArr2 a b w
end Go.Proofs.YtojaompfffpofaaGreat
