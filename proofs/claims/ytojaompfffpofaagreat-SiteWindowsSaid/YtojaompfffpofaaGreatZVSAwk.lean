import Derived.Shelf.Small.Bits
import Derived.Shelf.Strconv.Itoa0
import Derived.Shelf.Sort.Plain
import Derived.Shelf.Slices.In.SortNone
import Derived.Test.YtojaompfffpofaaGreatProg
import Derived.Test.YtojaompfffpofaaGreatSComb
import Derived.Sort.OwnSortedInts
import Derived.Outline
import Derived.Test.YtojaompfffpofaaGreatZVSRun2
import Derived.Test.YtojaompfffpofaaGreatSLaw0
import Derived.ChangeKeysEq
/-
  DERIVED: THE SHELF's CONTRACTS AT THIS DUMP, IN PLAIN WORDS (tools/lay-plain.mjs out of 'YtojaompfffpofaaGreatShelfA.lean', which tools/lay-shelf.mjs wrote): THE SAME DECLARATIONS UNDER THE SAME NAMES: 'import', 'namespace', 'open', 'def', 'theorem' AND NOTHING ELSE: no command of the shelf's: FOR A HAND-IN. Each laying: the table of numbers ('.._ren') and one theorem, a field a fact of the dump's own or the kernel's comparison; each contract: ONE APPLICATION.
-/
namespace Go.Proofs
open Go.Shelf
def Tryz.lays189_ren : Go.Shelf.Ren := ⟨fun | 189 => 118 | 125 => 147 | 257 => 146 | 128 => 170 | 129 => 171 | 294 => 161 | 295 => 162 | 296 => 163 | 297 => 164 | 298 => 165 | 299 => 166 | 216 => 167 | 300 => 168 | 301 => 169 | 328 => 178 | 329 => 179 | 330 => 180 | 331 => 181 | 332 => 182 | 215 => 183 | 343 => 188 | n => n, fun | 28 => 81 | 3 => 3 | 46 => 181 | 0 => 0 | 51 => 201 | 53 => 203 | 4 => 4 | 183 => 193 | 182 => 192 | 131 => 198 | 5 => 5 | 9 => 9 | 218 => 212 | 222 => 216 | 228 => 220 | 229 => 101 | n => n, fun | n => n⟩
theorem Tryz.lays189 : Go.Proofs.Lays.n189 Tryz.prog Tryz.lays189_ren := {
  mixed := by kernel_rfl
  f125 := Tryz.func147.trans (congrArg some (by kernel_rfl))
  f128 := Tryz.func170.trans (congrArg some (by kernel_rfl))
  f129 := Tryz.func171.trans (congrArg some (by kernel_rfl))
  f189 := Tryz.func118.trans (congrArg some (by kernel_rfl))
  f215 := Tryz.func183.trans (congrArg some (by kernel_rfl))
  f216 := Tryz.func167.trans (congrArg some (by kernel_rfl))
  f257 := Tryz.func146.trans (congrArg some (by kernel_rfl))
  f294 := Tryz.func161.trans (congrArg some (by kernel_rfl))
  f295 := Tryz.func162.trans (congrArg some (by kernel_rfl))
  f296 := Tryz.func163.trans (congrArg some (by kernel_rfl))
  f297 := Tryz.func164.trans (congrArg some (by kernel_rfl))
  f298 := Tryz.func165.trans (congrArg some (by kernel_rfl))
  f299 := Tryz.func166.trans (congrArg some (by kernel_rfl))
  f300 := Tryz.func168.trans (congrArg some (by kernel_rfl))
  f301 := Tryz.func169.trans (congrArg some (by kernel_rfl))
  f328 := Tryz.func178.trans (congrArg some (by kernel_rfl))
  f329 := Tryz.func179.trans (congrArg some (by kernel_rfl))
  f330 := Tryz.func180.trans (congrArg some (by kernel_rfl))
  f331 := Tryz.func181.trans (congrArg some (by kernel_rfl))
  f332 := Tryz.func182.trans (congrArg some (by kernel_rfl))
  f343 := Tryz.func188.trans (congrArg some (by kernel_rfl))
  t0 := Tryz.underlying0
  a0 := Tryz.isAgg0
  z0 := Tryz.sizeOf0
  v0 := Tryz.zeroValue0
  t3 := Tryz.underlying3
  a3 := Tryz.isAgg3
  z3 := Tryz.sizeOf3
  v3 := Tryz.zeroValue3
  t4 := Tryz.underlying4
  a4 := Tryz.isAgg4
  z4 := Tryz.sizeOf4
  v4 := Tryz.zeroValue4
  t5 := Tryz.underlying5
  a5 := Tryz.isAgg5
  z5 := Tryz.sizeOf5
  v5 := Tryz.zeroValue5
  t9 := Tryz.underlying9
  a9 := Tryz.isAgg9
  z9 := Tryz.sizeOf9
  v9 := Tryz.zeroValue9
  t28 := Tryz.underlying81
  a28 := Tryz.isAgg81
  z28 := Tryz.sizeOf81
  v28 := Tryz.zeroValue81
  t46 := Tryz.underlying181
  a46 := Tryz.isAgg181
  z46 := Tryz.sizeOf181
  v46 := Tryz.zeroValue181
  t51 := Tryz.underlying201
  a51 := Tryz.isAgg201
  z51 := Tryz.sizeOf201
  v51 := Tryz.zeroValue201
  t53 := Tryz.underlying203
  a53 := Tryz.isAgg203
  z53 := Tryz.sizeOf203
  v53 := Tryz.zeroValue203
  t131 := Tryz.underlying198
  a131 := Tryz.isAgg198
  z131 := Tryz.sizeOf198
  v131 := Tryz.zeroValue198
  t182 := Tryz.underlying192
  a182 := Tryz.isAgg192
  z182 := Tryz.sizeOf192
  v182 := Tryz.zeroValue192
  t183 := Tryz.underlying193
  a183 := Tryz.isAgg193
  z183 := Tryz.sizeOf193
  v183 := Tryz.zeroValue193
  t218 := Tryz.underlying212
  a218 := Tryz.isAgg212
  z218 := Tryz.sizeOf212
  v218 := Tryz.zeroValue212
  t222 := Tryz.underlying216
  a222 := Tryz.isAgg216
  z222 := Tryz.sizeOf216
  v222 := Tryz.zeroValue216
  t228 := Tryz.underlying220
  a228 := Tryz.isAgg220
  z228 := Tryz.sizeOf220
  v228 := Tryz.zeroValue220
  t229 := Tryz.underlying101
  a229 := Tryz.isAgg101
  z229 := Tryz.sizeOf101
  v229 := Tryz.zeroValue101 }
open Go.Sort Go.RowKit in
theorem Tryz.slices_Sort_int (blk off cap : Nat) (zs : List Int) (w : World) (hH : Holds (Value.int .i64) w blk off zs.toArray) (hblk : blk < w.heap.size) (hsz : zs.length < 4611686018427387904) :
    Calls Tryz.prog 118 #[.slice (some ⟨blk, off, none⟩) zs.length cap] w fun e w' =>
      e = .returned (.tuple #[]) ∧ ∃ n os, w' = grow (putRow (Value.int .i64) (Sort.ahead w n) blk off (zs.mergeSort fun x y => decide (x ≤ y)).toArray) os := Any.slices_Sort_int Tryz.lays189 blk off cap zs w hH hblk hsz
open Go.RowKit Go.Sort in
/-- .. and plain. (LAID: no walk: one application.) -/
theorem Tryz.slices_Sort_int_none (p : Option Addr) (cap : Nat) (w : World) :
    Calls Tryz.prog 118 #[.slice p 0 cap] w fun e w' => e = .returned (.tuple #[]) ∧ w' = w := Any.slices_Sort_int_none Tryz.lays189 p cap w
end Go.Proofs

namespace Go.Proofs.YtojaompfffpofaaGreat
open Go.ChangeShapes Go.WideShapes Go.ChangeAt Go.RowKit
set_option linter.unusedVariables false
theorem intV_map (l : List Int) : rowsV intV l = l.map (Value.int .i64) := by
  induction l with
  | nil => rfl
  | cons x r ih => show [Value.int .i64 x] ++ rowsV intV r = _; rw [ih]; rfl
theorem sort_ok (base : Nat) : SortOK base := by
  intro zs A cap n v hn hl hown
  subst hn
  rw [intV_map] at hown
  rcases hown.2 with ⟨hA, h0⟩ | ⟨g, cap', cur, hA, hg, hh, hle, hcap, hs, ht⟩
  · injection hA with e1 e2 e3
    subst e1 e3
    have hz : zs = [] := List.eq_nil_of_length_eq_zero h0
    rw [h0]
    refine (Tryz.slices_Sort_int_none none 0 v).mono ?_
    rintro e v' ⟨rfl, rfl⟩
    exact ⟨rfl, Or.inl (by rw [hz]; simp [srt]), Below.refl _ _⟩
  · injection hA with e1 e2 e3
    subst e1 e3
    have hlt : g < v.heap.size := (Array.getElem?_eq_some_iff.1 hh).1
    rw [Nat.mul_one] at ht
    refine (Tryz.slices_Sort_int g 0 cap zs v (holds_of_blockI hh ht) hlt (by omega)).mono ?_
    rintro e v' ⟨rfl, k, os, rfl⟩
    refine ⟨rfl, ?_, (Below.refl base v).grown (grownBy_sortedI _) (by omega) (fun q hq => by injection hq with hq; omega)⟩
    have ho := ownsRow_sortedI (n := k) (os := os) (ts := srt zs) (srt_len zs) hg hh hle hcap hs
    rw [← intV_map] at ho
    have ho2 : (Go.Sort.grow (Go.Sort.putRow (Value.int .i64) (Go.Sort.ahead v k) g 0 (srt zs).toArray) os).ownsRow base 3 1 (.slice (some ⟨g, 0, none⟩) (srt zs).length cap) (srt zs).length (rowsV intV (srt zs)) := by
      have e : (srt zs).length = zs.length := srt_len zs
      rw [e]; exact ho
    obtain ⟨A2, cap2, hv, hS, _⟩ := SlRows_own (f := intV) (n := 1) (fun _ => rfl) ho2
    injection hv with e4 e5 e6
    subst e4
    exact hS
end Go.Proofs.YtojaompfffpofaaGreat

namespace Go.Proofs.YtojaompfffpofaaGreat
open Go.ChangeShapes Go.WideShapes Go.ChangeAt Go.RowKit
set_option linter.unusedVariables false
set_option linter.unusedSimpArgs false
attribute [local go_sem ↓] Go.wp_at_zero Go.wp_at_succ
theorem Join_is (LA LB : List Rg) (A B : Option Addr) (na nb ca cb : Nat) (w : World) (hna : Hid (na = LA.length)) (hnb : Hid (nb = LB.length)) (na2 : na + nb ≤ 30)
    (HA : Hid (∀ w' : World, Below w.heap.size w w' → SlRows rgV 2 w' A LA)) (HB : Hid (∀ w' : World, Below w.heap.size w w' → SlRows rgV 2 w' B LB)) (CA : Hid (A = none → na = 0 ∧ ca = 0)) (CB : Hid (B = none → nb = 0 ∧ cb = 0)) (hEa : Hid (winE LA = 0)) (hEb : Hid (winE LB = 0)) :
    Calls Tryz.prog 29 #[.slice A na ca, .slice B nb cb] w (WofP (wof (fun m => inW LA m || inW LB m) (srt (mks (LA ++ LB)))).1 w) := by
  go_enter Tryz.func29, Tryz.ntmps29
  go_wp2_with fail
  refine (combJ_is LA LB A B na nb ca cb _ (Lib.hid sort_ok) hna hnb na2 HA HB CA CB hEa hEb).mono ?_
  rintro e x ⟨G, cg, rfl, hS, hN, hb⟩
  have HS := Lib.hid hS
  have HN := Lib.hid hN
  clear hS hN
  go_wp2
  go_ret2
  exact ⟨G, cg, rfl, HS.out, HN.out, hb⟩
set_option maxRecDepth 100000 in
set_option maxHeartbeats 1000000 in
/-- Two slices that hold the same windows are the same for the statements. -/
theorem ranges_t (L : List Rg) (A B : Option Addr) (ca cb n : Nat) (w : World) (hn : Hid (n = L.length)) (hl : n ≤ 1000000) (hA : SlRows rgV 2 w A L) (hB : SlRows rgV 2 w B L) :
    Calls Tryz.prog 22 #[.slice A n ca, .slice B n cb] w fun e w' => e = .returned (.bool true) ∧ Below w.heap.size w w' := by
  have HA : Hid (∀ w' : World, Below w.heap.size w w' → SlRows rgV 2 w' A L) := Lib.hid fun w' h => hA.below h
  have HB : Hid (∀ w' : World, Below w.heap.size w w' → SlRows rgV 2 w' B L) := Lib.hid fun w' h => hB.below h
  clear hA hB
  go_enter Tryz.func22, Tryz.ntmps22
  go_wp2
  go_loopw [5] (fun i wr => ∃ k : Nat, k ≤ n ∧ i = .int .i64 k ∧ Below w.heap.size w wr) (fun i _ => n - (intOf i).toNat)
  case atStart => exact ⟨0, by omega, rfl, (by (repeat (first | (with_reducible refine Below.drew ?_) | (with_reducible refine below_drewN ?_ _) | (with_reducible refine Below.alloc ?_ (by first | omega | (simp; done) | (simp; omega) | (simp at *; omega)) _) | (with_reducible refine Below.setCell ?_ (by first | omega | (simp; done) | (simp; omega) | (simp at *; omega)) _) | (with_reducible exact Below.refl _ _) | (with_reducible assumption) | (with_reducible refine Below.trans ?_ (Below.mono (by assumption) (by first | omega | (simp; done) | (simp; omega) | (simp at *; omega)))))))⟩
  case round =>
    obtain ⟨k, hk, rfl, hB0⟩ := hrel
    by_cases hkn : k < n
    · have hkl : k < L.length := by have := hn.out; omega
      have kn : (k : Int) < (n : Int) := by omega
      rcases HA.out _ hB0 with h0 | ⟨b1, o1, rfl, l1, hR1⟩
      · rw [h0] at hkl; simp at hkl
      rcases HB.out _ hB0 with h0 | ⟨b2, o2, rfl, l2, hR2⟩
      · rw [h0] at hkl; simp at hkl
      obtain ⟨c0, c1⟩ := rg_at hR1 hkl
      obtain ⟨d0, d1⟩ := rg_at hR2 hkl
      obtain ⟨⟨a, b⟩, hx⟩ : ∃ x, Hid (L.getD k default = x) := ⟨_, Lib.hid rfl⟩
      rw [hx.out] at c0 c1 d0 d1
      dsimp only at c0 c1 d0 d1
      clear hR1 hR2
      go_wp2_with fail
      go_big_quiet (fail)
      go_wp2
      go_roundw
      case rel => exact ⟨k + 1, by omega, by go_num, (by (repeat (first | (with_reducible refine Below.drew ?_) | (with_reducible refine below_drewN ?_ _) | (with_reducible refine Below.alloc ?_ (by first | omega | (simp; done) | (simp; omega) | (simp at *; omega)) _) | (with_reducible refine Below.setCell ?_ (by first | omega | (simp; done) | (simp; omega) | (simp at *; omega)) _) | (with_reducible exact Below.refl _ _) | (with_reducible assumption) | (with_reducible refine Below.trans ?_ (Below.mono (by assumption) (by first | omega | (simp; done) | (simp; omega) | (simp at *; omega)))))))⟩
      case measure => (simp [intOf]) <;> omega
    · have hkk : k = n := by omega
      clear hkk
      go_wp2
      go_ret
      exact ⟨rfl, hB0⟩
def exA : List Rg := [⟨0, 10⟩, ⟨20, 30⟩]
def exB : List Rg := [⟨5, 25⟩]
theorem ex_srt : srt (mks (exA ++ exB)) = [0, 5, 11, 20, 26, 31] := by
  have e : mks (exA ++ exB) = [0, 11, 20, 31, 5, 26] := rfl
  rw [e]
  unfold srt
  simp [List.mergeSort, List.MergeSort.Internal.splitInTwo, List.merge]
theorem ex_join : (wof (fun m => inW exA m || inW exB m) (srt (mks (exA ++ exB)))).1 = [⟨0, 30⟩] := by
  rw [ex_srt]
  kernel_rfl
theorem ex_win : winE exA = 0 ∧ winE exB = 0 := by decide +kernel
end Go.Proofs.YtojaompfffpofaaGreat

namespace Go.Proofs.YtojaompfffpofaaGreat
open Go.ChangeShapes Go.WideShapes Go.ChangeAt Go.RowKit
set_option linter.unusedVariables false
set_option linter.unusedSimpArgs false
attribute [local go_sem ↓] Go.wp_at_zero Go.wp_at_succ
/-- What RunTimes returns at a right run. -/
def RtmP (L : List (Int × Int)) (l : Nat) (w : World) (e : Ending) (w' : World) : Prop := ∃ g cap, e = .returned (.tuple #[.slice (some ⟨g, 0, none⟩) l cap, .int .i64 0]) ∧ g < w'.heap.size ∧ RowsAt prV 2 w' g 0 L ∧ Below w.heap.size w w'
set_option maxRecDepth 100000 in
set_option maxHeartbeats 1000000 in
theorem RunTimes_ok (A B Aq As : Option Addr) (n ca cb l cq cs : Nat) (Pl : List ByteArray) (M : List (List Int)) (bg : Int) (Q Z : List Int) (w : World) (hl0 : 0 < n) (hl : n ≤ 12) (HR : Hid (RnSl w A B Aq As n l Pl M bg Q Z)) :
    Calls Tryz.prog 50 #[.agg #[.slice A n ca, .slice B n cb], .agg #[.int .i64 bg, .slice Aq l cq, .slice As l cs]] w (RtmP (tmsL M bg Q Z l) l w) := by
  go_enter Tryz.func50, Tryz.ntmps50
  go_upto_region 1 with (fail)
  refine wp_world (RnU w A B Aq As n ca cb l cq cs bg w.heap.size (w.heap.size + 1)) (RnU.boxes w A B Aq As n ca cb l cq cs bg) (fun u hu => ?_)
  have HU := Lib.hid hu
  obtain ⟨c0, c1, r0, r1, r2, lc, lr, be⟩ := hu
  have HRU := Lib.hid (HR.out.below be)
  have HBE := Lib.hid be
  clear be HR
  generalize w.heap.size + 1 = br at *
  have HBE2 : Hid (∀ x, Below u.heap.size u x → BelS w x) := Lib.hid fun x hx => HBE.out.trans (hx.mono HBE.out.size)
  generalize w.heap.size = bc at *
  have HCH := Lib.hid HRU.out.ch
  go_wp2_with fail
  refine (CheckChart_ok A B n ca cb Pl M _ hl0 hl HCH).mono ?_
  rintro e y1 ⟨rfl, hb1⟩
  have HR1 := Lib.hid (HRU.out.below hb1)
  have HB1 := Lib.hid hb1
  clear c0 c1 r0 r1 r2 lc lr
  obtain ⟨c0, c1, r0, r1, r2, lc, lr, _⟩ := HU.out.step hb1
  clear hb1
  go_wp2_with fail
  refine (checkRun_ok A B Aq As n ca cb l cq cs Pl M bg Q Z _ hl HR1).mono ?_
  rintro e y2 ⟨rfl, hb2⟩
  have hB2 : Below u.heap.size u y2 := HB1.out.trans (hb2.mono HB1.out.size)
  have HR2 := Lib.hid (HRU.out.below hB2)
  have HB2 := Lib.hid hB2
  clear c0 c1 r0 r1 r2 lc lr hb2
  obtain ⟨c0, c1, r0, r1, r2, lc, lr, _⟩ := HU.out.step hB2
  clear hB2
  go_wp2_with fail
  refine (timesOf_is A B Aq As n ca cb l cq cs Pl M bg Q Z _ hl HR2).mono ?_
  rintro e y3 ⟨g, cap, rfl, hg, hr, hb3⟩
  have HG := Lib.hid hr
  have HB3 := Lib.hid (HBE2.out _ (HB2.out.trans (hb3.mono HB2.out.size)))
  clear hr hb3
  go_wp2
  go_ret2
  exact ⟨g, cap, rfl, hg, HG.out, HB3.out⟩
def exPl : List ByteArray := [⟨#[97]⟩, ⟨#[98]⟩, ⟨#[99]⟩]
def exM : List (List Int) := [[0, 10, 30], [10, 0, 10], [30, 10, 0]]
theorem ex_ch : ChOk exPl exM where
  n12 := by decide
  nms := by decide +kernel
  siz := by decide +kernel
  len := rfl
  row := by decide +kernel
  bnd := by
    have h : ∀ i, i < 3 → ∀ j, j < 3 → -1 ≤ mAt exM i j ∧ mAt exM i j ≤ 10000 := by decide +kernel
    intro i j hi hj; exact h i hi j hj
  dia := by decide +kernel
def ChP (w : World) (e : Ending) (w' : World) : Prop := ∃ A B, e = .returned (.agg #[.slice A 3 3, .slice B 3 3]) ∧ ChSl w' A B 3 exPl exM ∧ Below w.heap.size w w'
theorem three {P : Nat → Prop} (h0 : P 0) (h1 : P 1) (h2 : P 2) : ∀ k, k < 3 → P k := by
  intro k hk
  rcases (show k = 0 ∨ k = 1 ∨ k = 2 by omega) with rfl | rfl | rfl <;> assumption
set_option maxRecDepth 100000 in
set_option maxHeartbeats 1000000 in
theorem Chart_is (w : World) : Calls Tryz.prog 63 #[] w (ChP w) := by
  go_enter Tryz.func63, Tryz.ntmps63
  go_wp2
  refine bodyPost_ret (v := .agg #[.slice (some ⟨w.heap.size + 1, 0, none⟩) 3 3, .slice (some ⟨w.heap.size + 1 + 1 + 1 + 1 + 1, 0, none⟩) 3 3]) (by simp [results, Tryz.results63, go_sem, World.cell?_alloc_past]) rfl ⟨_, _, rfl, ⟨rfl, ex_ch, ?_, ?_⟩, (by (repeat (first | (with_reducible refine Below.drew ?_) | (with_reducible refine below_drewN ?_ _) | (with_reducible refine Below.alloc ?_ (by first | omega | (simp; done) | (simp; omega) | (simp at *; omega)) _) | (with_reducible refine Below.setCell ?_ (by first | omega | (simp; done) | (simp; omega) | (simp at *; omega)) _) | (with_reducible exact Below.refl _ _) | (with_reducible assumption) | (with_reducible refine Below.trans ?_ (Below.mono (by assumption) (by first | omega | (simp; done) | (simp; omega) | (simp at *; omega)))))))⟩
  · refine Or.inr ⟨_, 0, rfl, (by first | (simp; done) | (simp; omega)), ?_⟩
    intro k hk i hi
    obtain rfl : i = 0 := by omega
    have hk3 : k < 3 := hk
    rcases (show k = 0 ∨ k = 1 ∨ k = 2 by omega) with rfl | rfl | rfl <;> simp [go_sem, World.cell?_alloc_past, exPl, strV]
  · refine Or.inr ⟨_, 0, rfl, by simp, ?_⟩
    have row : ∀ (R : List Int) (b : Nat) (X : World), R.length = 3 → b < X.heap.size → (∀ j, j < 3 → X.cell? ⟨b, j, none⟩ = some (.int .i64 (R.getD j 0))) → SlRows intV 1 X (some ⟨b, 0, none⟩) R := by
      intro R b X hR hb h
      refine Or.inr ⟨b, 0, rfl, hb, fun k hk i hi => ?_⟩
      obtain rfl : i = 0 := by omega
      rw [Nat.mul_one, Nat.add_zero, Nat.zero_add, h k (by omega), getD_at hk]; rfl
    refine three ?_ ?_ ?_
    · exact ⟨some ⟨w.heap.size + 1 + 1, 0, none⟩, 3, by simp [go_sem, World.cell?_alloc_past, exM], row _ _ _ rfl (by first | (simp; done) | (simp; omega)) (three (by simp [go_sem, World.cell?_alloc_past, exM]) (by simp [go_sem, World.cell?_alloc_past, exM]) (by simp [go_sem, World.cell?_alloc_past, exM]))⟩
    · exact ⟨some ⟨w.heap.size + 1 + 1 + 1, 0, none⟩, 3, by simp [go_sem, World.cell?_alloc_past, exM], row _ _ _ rfl (by first | (simp; done) | (simp; omega)) (three (by simp [go_sem, World.cell?_alloc_past, exM]) (by simp [go_sem, World.cell?_alloc_past, exM]) (by simp [go_sem, World.cell?_alloc_past, exM]))⟩
    · exact ⟨some ⟨w.heap.size + 1 + 1 + 1 + 1, 0, none⟩, 3, by simp [go_sem, World.cell?_alloc_past, exM], row _ _ _ rfl (by simp) (three (by simp [go_sem, World.cell?_alloc_past, exM]) (by simp [go_sem, World.cell?_alloc_past, exM]) (by simp [go_sem, World.cell?_alloc_past, exM]))⟩
theorem ex_way : ((gRnd (gZero 3 0) exM 3 3).getD 2 default).ps = [0, 1, 2] ∧ ((gRnd (gZero 3 0) exM 3 3).getD 2 default).mi = 20 := by decide +kernel
def exQ : List Int := [0, 1, 2]
def exZ : List Int := [0, 5, 5]
theorem ex_run : RunOk 3 exM 100 exQ exZ where
  l0 := by decide
  l12 := by decide
  ls := rfl
  b0 := by decide
  b1 := by decide
  q := by
    refine three ⟨0, by decide, rfl⟩ ⟨1, by decide, rfl⟩ ⟨2, by decide, rfl⟩
  s := by decide +kernel
  gap := by
    have h : ∀ i, i < 2 → mAt exM (exQ.getD i 0).toNat (exQ.getD (i + 1) 0).toNat ≠ -1 := by decide +kernel
    intro i hi; exact h i (by have : exQ.length = 3 := rfl; omega)
theorem ex_tms : tmsL exM 100 exQ exZ 3 = [(100, 100), (110, 115), (125, 130)] := by decide +kernel
theorem rowInt {R : List Int} {b : Nat} {X : World} (hR : R.length = 3) (hb : b < X.heap.size) (h : ∀ j, j < 3 → X.cell? ⟨b, j, none⟩ = some (.int .i64 (R.getD j 0))) : SlRows intV 1 X (some ⟨b, 0, none⟩) R := by
  refine Or.inr ⟨b, 0, rfl, hb, fun k hk i hi => ?_⟩
  obtain rfl : i = 0 := by omega
  rw [Nat.mul_one, Nat.add_zero, Nat.zero_add, h k (by omega), getD_at hk]; rfl
/-! ### Two arrays of two numbers are the same -/
theorem part2a (a b : Int) (w : World) : (part 3 #[.int .i64 a, .int .i64 b] 0).run Tryz.prog w = .ok (.int .i64 a) w := by kernel_rfl
theorem part2b (a b : Int) (w : World) : (part 3 #[.int .i64 a, .int .i64 b] 1).run Tryz.prog w = .ok (.int .i64 b) w := by kernel_rfl
theorem info2 : ∃ i, Tryz.prog.info? 3 = some i := Option.isSome_iff_exists.1 (by kernel_rfl)
theorem cells2 : Tryz.prog.cellsOf 3 = 1 := by kernel_rfl
theorem undI2 (w : World) : (underlying 3).run Tryz.prog w = .ok (.int .i64) w := by kernel_rfl
theorem eqInt2 (d : Nat) (a : Int) (w : World) : (Op.equalIn (d + 1) 3 (.int .i64 a) (.int .i64 a)).run Tryz.prog w = .ok true w := by
  simp only [Op.equalIn, Sem.run_bind, undI2, Result.andThen]
  simp
theorem eqArr2 (a b : Int) (w : World) : (Op.equal 79 (.agg #[.int .i64 a, .int .i64 b]) (.agg #[.int .i64 a, .int .i64 b])).run Tryz.prog w = .ok true w := by
  obtain ⟨i, hi⟩ := info2
  have h := run_equalIn_array (P := Tryz.prog) (w := w) 9999 (t := 79) (e := 3) (n := 2) #[.int .i64 a, .int .i64 b] #[.int .i64 a, .int .i64 b] Tryz.underlying79 hi
  refine h.trans ?_
  rw [cells2, show List.range 2 = [0, 1] from rfl]
  simp [Op.eqItems, Sem.run_bind, part2a, part2b, eqInt2 9998]
theorem eqArr2In (a b : Int) (w : World) : (Op.equalIn 10000 79 (.agg #[.int .i64 a, .int .i64 b]) (.agg #[.int .i64 a, .int .i64 b])).run Tryz.prog w = .ok true w := eqArr2 a b w
end Go.Proofs.YtojaompfffpofaaGreat
