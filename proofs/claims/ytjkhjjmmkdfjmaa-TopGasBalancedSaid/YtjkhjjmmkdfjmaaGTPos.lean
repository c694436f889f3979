import Derived.Test.YtjkhjjmmkdfjmaaGTHel
import Derived.Test.YtjkhjjmmkdfjmaaGTFil
import Derived.Test.YtjkhjjmmkdfjmaaGTFRoom1
import Derived.Test.YtjkhjjmmkdfjmaaGTLastReg
import Derived.Outline
namespace Go.Proofs.Ytjkhjjmmkdfjmaa
open Go.ChangeShapes Go.WideShapes Go.ChangeAt Go.RowKit
set_option linter.unusedVariables false
set_option linter.unusedSimpArgs false
attribute [local go_sem ↓] Go.wp_at_zero Go.wp_at_succ
theorem con_sum {a b c : Int} (h : conB a b c = true) : 0 ≤ a + b + c ∧ a + b + c ≤ 1000000000 ∧ 0 ≤ a ∧ 0 ≤ b ∧ 0 ≤ c := by
  have h' := conB_iff.1 h
  omega
/-- The error of a fill that is right alone: from outside; vented; moved. -/
def pos0 (d day am S vo mo : Int) : Int := if d < day then 9 else if mo * vo < 1000 * (S + am) then 16 else 0
def pos2 (d day am S : Int) : Int := if d < day then 9 else if S < am then 20 else 0
def pos1 (d day am : Int) (pu : Bool) (A va B vo mo : Int) : Int := if d < day then 9 else if A < am then 20 else if mo * vo < 1000 * (B + am) then 16 else if pu = false ∧ 1000 * (A - am) * vo < 1000 * (B + am) * va then 24 else 0
set_option maxHeartbeats 4000000 in
set_option maxRecDepth 100000 in
theorem pos_m1 (rb vb pa : Nat) (d am o h : Int) (fr tz : ByteArray) (pu : Bool) (tp : Option Addr) (w : World) : Calls Try.prog 97 #[.pointer (some ⟨rb, 0, none⟩), .agg #[.int .i64 1, .int .i64 d, .string fr, .string tz, .int .i64 o, .int .i64 h, .int .i64 am, .bool pu], .pointer none, .pointer tp] w fun e w' => e = .returned (.int .i64 6) ∧ Below w.heap.size w w' := by
  go_enter Try.func97, Try.ntmps97
  go_wp2
  go_ret
  exact ⟨rfl, belA⟩
set_option maxHeartbeats 4000000 in
set_option maxRecDepth 100000 in
theorem pos_m2 (rb vb pa : Nat) (d am o h : Int) (fr tz : ByteArray) (pu : Bool) (tp : Option Addr) (w : World) : Calls Try.prog 97 #[.pointer (some ⟨rb, 0, none⟩), .agg #[.int .i64 2, .int .i64 d, .string fr, .string tz, .int .i64 o, .int .i64 h, .int .i64 am, .bool pu], .pointer none, .pointer tp] w fun e w' => e = .returned (.int .i64 6) ∧ Below w.heap.size w w' := by
  go_enter Try.func97, Try.ntmps97
  go_wp2
  go_ret
  exact ⟨rfl, belA⟩
set_option maxHeartbeats 4000000 in
set_option maxRecDepth 100000 in
theorem pos_m0 (rb vb pa : Nat) (d am o h : Int) (fr tz : ByteArray) (pu : Bool) (w : World) : Calls Try.prog 97 #[.pointer (some ⟨rb, 0, none⟩), .agg #[.int .i64 0, .int .i64 d, .string fr, .string tz, .int .i64 o, .int .i64 h, .int .i64 am, .bool pu], .pointer none, .pointer none] w fun e w' => e = .returned (.int .i64 6) ∧ Below w.heap.size w w' := by
  go_enter Try.func97, Try.ntmps97
  go_wp2
  go_ret
  exact ⟨rfl, belA⟩
set_option maxHeartbeats 4000000 in
set_option maxRecDepth 100000 in
theorem pos_m1b (rb vb pa : Nat) (d am o h : Int) (fr tz : ByteArray) (pu : Bool) (w : World) : Calls Try.prog 97 #[.pointer (some ⟨rb, 0, none⟩), .agg #[.int .i64 1, .int .i64 d, .string fr, .string tz, .int .i64 o, .int .i64 h, .int .i64 am, .bool pu], .pointer (some ⟨vb, pa, none⟩), .pointer none] w fun e w' => e = .returned (.int .i64 6) ∧ Below w.heap.size w w' := by
  go_enter Try.func97, Try.ntmps97
  go_wp2
  go_ret
  exact ⟨rfl, belA⟩
set_option maxHeartbeats 4000000 in
set_option maxRecDepth 100000 in
theorem pos_2 (rb vb pa pb : Nat) (d am o h day : Int) (fr tz sa sb : ByteArray) (pu : Bool) (va ma a0 a1 a2 SA : Int) (E : Int) (w : World) (hE : Hid (pos2 d day am SA = E)) (r7 : w.cell? ⟨rb, 7, none⟩ = some (.int .i64 day)) (xa0 : w.cell? ⟨vb, pa, none⟩ = some (.string sa)) (xa1 : w.cell? ⟨vb, pa + 1, none⟩ = some (.int .i64 va)) (xa2 : w.cell? ⟨vb, pa + 2, none⟩ = some (.int .i64 ma)) (xa3 : w.cell? ⟨vb, pa + 3, none⟩ = some (.int .i64 a0)) (xa4 : w.cell? ⟨vb, pa + 4, none⟩ = some (.int .i64 a1)) (xa5 : w.cell? ⟨vb, pa + 5, none⟩ = some (.int .i64 a2)) (hcA : Hid (conB a0 a1 a2 = true)) (hSA : Hid (a0 + a1 + a2 = SA)) (lv : vb < w.heap.size) (lr : rb < w.heap.size) : Calls Try.prog 97 #[.pointer (some ⟨rb, 0, none⟩), .agg #[.int .i64 2, .int .i64 d, .string fr, .string tz, .int .i64 o, .int .i64 h, .int .i64 am, .bool pu], .pointer (some ⟨vb, pa, none⟩), .pointer none] w fun e w' => e = .returned (.int .i64 E) ∧ Below w.heap.size w w' := by
  have o1 : vb ≠ w.heap.size := by omega
  have o2 : rb ≠ w.heap.size := by omega
  have o3 : vb < w.heap.size + 1 := by omega
  have o4 : rb < w.heap.size + 1 := by omega
  have cA := con_sum hcA.out
  rw [hSA.out] at cA
  obtain ⟨sA0, sA1, -⟩ := cA
  go_enter Try.func97, Try.ntmps97
  go_upto_region 4 with (fail)
  refine wp_region_held_drew (S := (fun w' => w'.cell? ⟨w.heap.size, 0, none⟩ = some (.int .i64 2) ∧ w'.cell? ⟨w.heap.size, 1, none⟩ = some (.int .i64 d) ∧ w'.cell? ⟨w.heap.size, 2, none⟩ = some (.string fr) ∧ w'.cell? ⟨w.heap.size, 3, none⟩ = some (.string tz) ∧ w'.cell? ⟨w.heap.size, 4, none⟩ = some (.int .i64 o) ∧ w'.cell? ⟨w.heap.size, 5, none⟩ = some (.int .i64 h) ∧ w'.cell? ⟨w.heap.size, 6, none⟩ = some (.int .i64 am) ∧ w'.cell? ⟨w.heap.size, 7, none⟩ = some (.bool pu) ∧ w'.cell? ⟨rb, 7, none⟩ = some (.int .i64 day))) (by kernel_rfl) (by simp [go_sem, cP, *]) (fun hHeld => ?_)
  refine tkA 0 25 rfl ?_
  refine tkA 1 26 rfl ?_
  refine tkA 2 27 rfl ?_
  refine tkA 3 28 rfl ?_
  refine tkA 4 29 rfl ?_
  refine tkA 5 30 rfl ?_
  refine tkA 6 31 rfl ?_
  refine tkA 7 24 rfl ?_
  refine wpAnyH_done (by kernel_rfl) ?_ _
  by_cases hd : d < day
  · have hr : Hid ((9 : Int) = E) := Lib.hid (by rw [← hE.out]; unfold pos2; rw [if_pos hd])
    go_wp2
    go_ret
    exact ⟨ret_int hr.out, belA⟩
  · skip
    go_upto_region 6 with (fail)
    refine wp_region_held_drew (S := (fun w' => w'.cell? ⟨w.heap.size, 0, none⟩ = some (.int .i64 2) ∧ w'.cell? ⟨w.heap.size, 1, none⟩ = some (.int .i64 d) ∧ w'.cell? ⟨w.heap.size, 2, none⟩ = some (.string fr) ∧ w'.cell? ⟨w.heap.size, 3, none⟩ = some (.string tz) ∧ w'.cell? ⟨w.heap.size, 4, none⟩ = some (.int .i64 o) ∧ w'.cell? ⟨w.heap.size, 5, none⟩ = some (.int .i64 h) ∧ w'.cell? ⟨w.heap.size, 6, none⟩ = some (.int .i64 am) ∧ w'.cell? ⟨w.heap.size, 7, none⟩ = some (.bool pu) ∧ w'.cell? ⟨vb, pa, none⟩ = some (.string sa) ∧ w'.cell? ⟨vb, pa + 1, none⟩ = some (.int .i64 va) ∧ w'.cell? ⟨vb, pa + 2, none⟩ = some (.int .i64 ma) ∧ w'.cell? ⟨vb, pa + 3, none⟩ = some (.int .i64 a0) ∧ w'.cell? ⟨vb, pa + 4, none⟩ = some (.int .i64 a1) ∧ w'.cell? ⟨vb, pa + 5, none⟩ = some (.int .i64 a2) ∧ w'.cell? ⟨rb, 7, none⟩ = some (.int .i64 day))) (by kernel_rfl) (by simp [go_sem, cP, *]) (fun hHeld => ?_)
    refine tkA 0 33 rfl ?_
    refine tkA 1 34 rfl ?_
    refine tkA 2 35 rfl ?_
    refine tkA 3 36 rfl ?_
    refine tkA 4 37 rfl ?_
    refine tkA 5 38 rfl ?_
    refine tkA 6 39 rfl ?_
    refine tkA 8 41 rfl ?_
    refine tkA 9 42 rfl ?_
    refine rdA 7 rfl (fun K hK => ?_)
    go_simp
    refine (sumOf_ok a0 a1 a2 SA _ hcA hSA).mono ?_
    rintro e xw1 ⟨rfl, hbx1⟩
    have zx1 := hbx1.size
    try simp at zx1
    obtain ⟨x1A0, x1A1, x1A2, x1A3, x1A4, x1A5, x1A6, x1A7, x1B0, x1B1, x1B2, x1B3, x1B4, x1B5, x1C0⟩ : xw1.cell? ⟨w.heap.size, 0, none⟩ = some (.int .i64 2) ∧ xw1.cell? ⟨w.heap.size, 1, none⟩ = some (.int .i64 d) ∧ xw1.cell? ⟨w.heap.size, 2, none⟩ = some (.string fr) ∧ xw1.cell? ⟨w.heap.size, 3, none⟩ = some (.string tz) ∧ xw1.cell? ⟨w.heap.size, 4, none⟩ = some (.int .i64 o) ∧ xw1.cell? ⟨w.heap.size, 5, none⟩ = some (.int .i64 h) ∧ xw1.cell? ⟨w.heap.size, 6, none⟩ = some (.int .i64 am) ∧ xw1.cell? ⟨w.heap.size, 7, none⟩ = some (.bool pu) ∧ xw1.cell? ⟨vb, pa, none⟩ = some (.string sa) ∧ xw1.cell? ⟨vb, pa + 1, none⟩ = some (.int .i64 va) ∧ xw1.cell? ⟨vb, pa + 2, none⟩ = some (.int .i64 ma) ∧ xw1.cell? ⟨vb, pa + 3, none⟩ = some (.int .i64 a0) ∧ xw1.cell? ⟨vb, pa + 4, none⟩ = some (.int .i64 a1) ∧ xw1.cell? ⟨vb, pa + 5, none⟩ = some (.int .i64 a2) ∧ xw1.cell? ⟨rb, 7, none⟩ = some (.int .i64 day) := by refine ⟨?_, ?_, ?_, ?_, ?_, ?_, ?_, ?_, ?_, ?_, ?_, ?_, ?_, ?_, ?_⟩ <;> (rw [bc1 hbx1]; simp [go_sem, cP, *])
    obtain ⟨x1o0, x1n0, x1o1, x1n1, x1o2, x1n2⟩ : w.heap.size < xw1.heap.size ∧ xw1.heap.size ≠ w.heap.size ∧ vb < xw1.heap.size ∧ xw1.heap.size ≠ vb ∧ rb < xw1.heap.size ∧ xw1.heap.size ≠ rb := by refine ⟨?_, ?_, ?_, ?_, ?_, ?_⟩ <;> omega
    have hBx1 : Below w.heap.size w xw1 := belA
    clear hbx1 
    go_wp2_with fail
    refine hK.out _ _ (by simp [go_sem, cP, *]) (fun hHeld => ?_)
    clear hK K
    try simp only [Act.put, sA, sB, sC]
    refine tkA 10 43 rfl ?_
    refine tkA 11 44 rfl ?_
    refine tkA 12 32 rfl ?_
    refine wpAnyH_done (by kernel_rfl) ?_ _
    by_cases hs : SA < am
    · have hr : Hid ((20 : Int) = E) := Lib.hid (by rw [← hE.out]; unfold pos2; rw [if_neg (by omega), if_pos hs])
      go_wp2
      go_ret
      exact ⟨ret_int hr.out, belA⟩
    · have hr : Hid ((0 : Int) = E) := Lib.hid (by rw [← hE.out]; unfold pos2; rw [if_neg (by omega), if_neg (by omega)])
      go_upto_region 8 with (fail)
      refine wp_region_held_drew (S := (fun w' => w'.cell? ⟨w.heap.size, 0, none⟩ = some (.int .i64 2) ∧ w'.cell? ⟨w.heap.size, 1, none⟩ = some (.int .i64 d) ∧ w'.cell? ⟨w.heap.size, 2, none⟩ = some (.string fr) ∧ w'.cell? ⟨w.heap.size, 3, none⟩ = some (.string tz) ∧ w'.cell? ⟨w.heap.size, 4, none⟩ = some (.int .i64 o) ∧ w'.cell? ⟨w.heap.size, 5, none⟩ = some (.int .i64 h) ∧ w'.cell? ⟨w.heap.size, 6, none⟩ = some (.int .i64 am) ∧ w'.cell? ⟨w.heap.size, 7, none⟩ = some (.bool pu) ∧ w'.cell? ⟨vb, pa, none⟩ = some (.string sa) ∧ w'.cell? ⟨vb, pa + 1, none⟩ = some (.int .i64 va) ∧ w'.cell? ⟨vb, pa + 2, none⟩ = some (.int .i64 ma) ∧ w'.cell? ⟨vb, pa + 3, none⟩ = some (.int .i64 a0) ∧ w'.cell? ⟨vb, pa + 4, none⟩ = some (.int .i64 a1) ∧ w'.cell? ⟨vb, pa + 5, none⟩ = some (.int .i64 a2) ∧ w'.cell? ⟨rb, 7, none⟩ = some (.int .i64 day))) (by kernel_rfl) (by simp [go_sem, cP, *]) (fun hHeld => ?_)
      refine tkA 0 46 rfl ?_
      refine tkA 1 47 rfl ?_
      refine tkA 2 48 rfl ?_
      refine skH 3 ⟨some 49, _, _, _, _, _⟩ rfl (by assumption) ?_
      try simp only [Act.put, sA, sB, sC]
      refine skH 4 ⟨some 50, _, _, _, _, _⟩ rfl (by assumption) ?_
      try simp only [Act.put, sA, sB, sC]
      refine skH 5 ⟨some 51, _, _, _, _, _⟩ rfl (by assumption) ?_
      try simp only [Act.put, sA, sB, sC]
      refine skH 6 ⟨some 52, _, _, _, _, _⟩ rfl (by assumption) ?_
      try simp only [Act.put, sA, sB, sC]
      refine skH 7 ⟨some 53, _, _, _, _, _⟩ rfl (by assumption) ?_
      try simp only [Act.put, sA, sB, sC]
      refine skH 8 ⟨some 54, _, _, _, _, _⟩ rfl (by assumption) ?_
      try simp only [Act.put, sA, sB, sC]
      refine skH 9 ⟨some 55, _, _, _, _, _⟩ rfl (by assumption) ?_
      try simp only [Act.put, sA, sB, sC]
      refine skH 10 ⟨some 56, _, _, _, _, _⟩ rfl (by assumption) ?_
      try simp only [Act.put, sA, sB, sC]
      refine skH 11 ⟨some 57, _, _, _, _, _⟩ rfl (by assumption) ?_
      try simp only [Act.put, sA, sB, sC]
      refine skH 12 ⟨some 58, _, _, _, _, _⟩ rfl (by assumption) ?_
      try simp only [Act.put, sA, sB, sC]
      refine skH 13 ⟨some 59, _, _, _, _, _⟩ rfl (by assumption) ?_
      try simp only [Act.put, sA, sB, sC]
      refine skH 14 ⟨some 60, _, _, _, _, _⟩ rfl (by assumption) ?_
      try simp only [Act.put, sA, sB, sC]
      refine skH 15 ⟨some 61, _, _, _, _, _⟩ rfl (by assumption) ?_
      try simp only [Act.put, sA, sB, sC]
      refine skH 16 ⟨some 62, _, _, _, _, _⟩ rfl (by assumption) ?_
      try simp only [Act.put, sA, sB, sC]
      refine tkA 17 63 rfl ?_
      refine tkA 18 45 rfl ?_
      refine wpAnyH_done (by kernel_rfl) ?_ _
      go_upto_region 10 with (fail)
      refine wp_region_held_drew (S := (fun w' => w'.cell? ⟨w.heap.size, 0, none⟩ = some (.int .i64 2) ∧ w'.cell? ⟨w.heap.size, 1, none⟩ = some (.int .i64 d) ∧ w'.cell? ⟨w.heap.size, 2, none⟩ = some (.string fr) ∧ w'.cell? ⟨w.heap.size, 3, none⟩ = some (.string tz) ∧ w'.cell? ⟨w.heap.size, 4, none⟩ = some (.int .i64 o) ∧ w'.cell? ⟨w.heap.size, 5, none⟩ = some (.int .i64 h) ∧ w'.cell? ⟨w.heap.size, 6, none⟩ = some (.int .i64 am) ∧ w'.cell? ⟨w.heap.size, 7, none⟩ = some (.bool pu) ∧ w'.cell? ⟨vb, pa, none⟩ = some (.string sa) ∧ w'.cell? ⟨vb, pa + 1, none⟩ = some (.int .i64 va) ∧ w'.cell? ⟨vb, pa + 2, none⟩ = some (.int .i64 ma) ∧ w'.cell? ⟨vb, pa + 3, none⟩ = some (.int .i64 a0) ∧ w'.cell? ⟨vb, pa + 4, none⟩ = some (.int .i64 a1) ∧ w'.cell? ⟨vb, pa + 5, none⟩ = some (.int .i64 a2) ∧ w'.cell? ⟨rb, 7, none⟩ = some (.int .i64 day))) (by kernel_rfl) (by simp [go_sem, cP, *]) (fun hHeld => ?_)
      refine tkA 0 65 rfl ?_
      refine tkA 1 66 rfl ?_
      refine tkA 2 67 rfl ?_
      refine tkA 3 68 rfl ?_
      refine skH 4 ⟨some 69, _, _, _, _, _⟩ rfl (by assumption) ?_
      try simp only [Act.put, sA, sB, sC]
      refine skH 5 ⟨some 70, _, _, _, _, _⟩ rfl (by assumption) ?_
      try simp only [Act.put, sA, sB, sC]
      refine skH 6 ⟨some 71, _, _, _, _, _⟩ rfl (by assumption) ?_
      try simp only [Act.put, sA, sB, sC]
      refine tkA 7 72 rfl ?_
      refine tkA 8 73 rfl ?_
      refine skH 9 ⟨some 74, _, _, _, _, _⟩ rfl (by assumption) ?_
      try simp only [Act.put, sA, sB, sC]
      refine skH 10 ⟨some 75, _, _, _, _, _⟩ rfl (by assumption) ?_
      try simp only [Act.put, sA, sB, sC]
      refine skH 11 ⟨some 76, _, _, _, _, _⟩ rfl (by assumption) ?_
      try simp only [Act.put, sA, sB, sC]
      refine skH 12 ⟨some 77, _, _, _, _, _⟩ rfl (by assumption) ?_
      try simp only [Act.put, sA, sB, sC]
      refine skH 13 ⟨some 78, _, _, _, _, _⟩ rfl (by assumption) ?_
      try simp only [Act.put, sA, sB, sC]
      refine skH 14 ⟨some 79, _, _, _, _, _⟩ rfl (by assumption) ?_
      try simp only [Act.put, sA, sB, sC]
      refine skH 15 ⟨some 80, _, _, _, _, _⟩ rfl (by assumption) ?_
      try simp only [Act.put, sA, sB, sC]
      refine skH 16 ⟨some 81, _, _, _, _, _⟩ rfl (by assumption) ?_
      try simp only [Act.put, sA, sB, sC]
      refine skH 17 ⟨some 82, _, _, _, _, _⟩ rfl (by assumption) ?_
      try simp only [Act.put, sA, sB, sC]
      refine skH 18 ⟨some 83, _, _, _, _, _⟩ rfl (by assumption) ?_
      try simp only [Act.put, sA, sB, sC]
      refine skH 19 ⟨some 84, _, _, _, _, _⟩ rfl (by assumption) ?_
      try simp only [Act.put, sA, sB, sC]
      refine skH 20 ⟨some 85, _, _, _, _, _⟩ rfl (by assumption) ?_
      try simp only [Act.put, sA, sB, sC]
      refine skH 21 ⟨some 86, _, _, _, _, _⟩ rfl (by assumption) ?_
      try simp only [Act.put, sA, sB, sC]
      refine skH 22 ⟨some 87, _, _, _, _, _⟩ rfl (by assumption) ?_
      try simp only [Act.put, sA, sB, sC]
      refine skH 23 ⟨some 88, _, _, _, _, _⟩ rfl (by assumption) ?_
      try simp only [Act.put, sA, sB, sC]
      refine tkA 24 89 rfl ?_
      refine tkA 25 64 rfl ?_
      refine wpAnyH_done (by kernel_rfl) ?_ _
      go_wp2
      go_ret
      exact ⟨ret_int hr.out, belA⟩
set_option maxHeartbeats 4000000 in
set_option maxRecDepth 100000 in
theorem pos_0 (rb vb pa pb : Nat) (d am o h day : Int) (fr tz sa sb : ByteArray) (pu : Bool) (vo mo b0 b1 b2 SB : Int) (E : Int) (w : World) (hE : Hid (pos0 d day am SB vo mo = E)) (r7 : w.cell? ⟨rb, 7, none⟩ = some (.int .i64 day)) (xb0 : w.cell? ⟨vb, pb, none⟩ = some (.string sb)) (xb1 : w.cell? ⟨vb, pb + 1, none⟩ = some (.int .i64 vo)) (xb2 : w.cell? ⟨vb, pb + 2, none⟩ = some (.int .i64 mo)) (xb3 : w.cell? ⟨vb, pb + 3, none⟩ = some (.int .i64 b0)) (xb4 : w.cell? ⟨vb, pb + 4, none⟩ = some (.int .i64 b1)) (xb5 : w.cell? ⟨vb, pb + 5, none⟩ = some (.int .i64 b2)) (hcB : Hid (conB b0 b1 b2 = true)) (hSB : Hid (b0 + b1 + b2 = SB)) (v1 : 1 ≤ vo) (v2 : vo ≤ 1000000000) (m1 : 1 ≤ mo) (m2 : mo ≤ 1000000000) (am1 : 1 ≤ am) (am2 : am ≤ 1000000000) (lv : vb < w.heap.size) (lr : rb < w.heap.size) : Calls Try.prog 97 #[.pointer (some ⟨rb, 0, none⟩), .agg #[.int .i64 0, .int .i64 d, .string fr, .string tz, .int .i64 o, .int .i64 h, .int .i64 am, .bool pu], .pointer none, .pointer (some ⟨vb, pb, none⟩)] w fun e w' => e = .returned (.int .i64 E) ∧ Below w.heap.size w w' := by
  have o1 : vb ≠ w.heap.size := by omega
  have o2 : rb ≠ w.heap.size := by omega
  have o3 : vb < w.heap.size + 1 := by omega
  have o4 : rb < w.heap.size + 1 := by omega
  have cB := con_sum hcB.out
  rw [hSB.out] at cB
  obtain ⟨sB0, sB1, -⟩ := cB
  obtain ⟨P, hP⟩ : ∃ P, Hid (1000 * (SB + am) = P) := ⟨_, Lib.hid rfl⟩
  obtain ⟨pP0, pP1⟩ : 0 ≤ P ∧ P ≤ 4000000000000000000 := by have := hP.out; omega
  obtain ⟨c, hc⟩ : ∃ c, Hid (ratI P vo mo 1 = c) := ⟨_, Lib.hid rfl⟩
  have hcs : Hid (0 < c ↔ mo * vo < 1000 * (SB + am)) := Lib.hid (by have := (ratI_sgn (n := P) (d := vo) (m := mo) (e := 1) (by omega) (by omega) (by omega) (by omega)).1; rw [hc.out, ← hP.out, Int.mul_one] at this; exact this)
  go_enter Try.func97, Try.ntmps97
  go_upto_region 4 with (fail)
  refine wp_region_held_drew (S := (fun w' => w'.cell? ⟨w.heap.size, 0, none⟩ = some (.int .i64 0) ∧ w'.cell? ⟨w.heap.size, 1, none⟩ = some (.int .i64 d) ∧ w'.cell? ⟨w.heap.size, 2, none⟩ = some (.string fr) ∧ w'.cell? ⟨w.heap.size, 3, none⟩ = some (.string tz) ∧ w'.cell? ⟨w.heap.size, 4, none⟩ = some (.int .i64 o) ∧ w'.cell? ⟨w.heap.size, 5, none⟩ = some (.int .i64 h) ∧ w'.cell? ⟨w.heap.size, 6, none⟩ = some (.int .i64 am) ∧ w'.cell? ⟨w.heap.size, 7, none⟩ = some (.bool pu) ∧ w'.cell? ⟨rb, 7, none⟩ = some (.int .i64 day))) (by kernel_rfl) (by simp [go_sem, cP, *]) (fun hHeld => ?_)
  refine tkA 0 25 rfl ?_
  refine tkA 1 26 rfl ?_
  refine tkA 2 27 rfl ?_
  refine tkA 3 28 rfl ?_
  refine tkA 4 29 rfl ?_
  refine tkA 5 30 rfl ?_
  refine tkA 6 31 rfl ?_
  refine tkA 7 24 rfl ?_
  refine wpAnyH_done (by kernel_rfl) ?_ _
  by_cases hd : d < day
  · have hr : Hid ((9 : Int) = E) := Lib.hid (by rw [← hE.out]; unfold pos0; rw [if_pos hd])
    go_wp2
    go_ret
    exact ⟨ret_int hr.out, belA⟩
  · skip
    go_upto_region 6 with (fail)
    refine wp_region_held_drew (S := (fun w' => w'.cell? ⟨w.heap.size, 0, none⟩ = some (.int .i64 0) ∧ w'.cell? ⟨w.heap.size, 1, none⟩ = some (.int .i64 d) ∧ w'.cell? ⟨w.heap.size, 2, none⟩ = some (.string fr) ∧ w'.cell? ⟨w.heap.size, 3, none⟩ = some (.string tz) ∧ w'.cell? ⟨w.heap.size, 4, none⟩ = some (.int .i64 o) ∧ w'.cell? ⟨w.heap.size, 5, none⟩ = some (.int .i64 h) ∧ w'.cell? ⟨w.heap.size, 6, none⟩ = some (.int .i64 am) ∧ w'.cell? ⟨w.heap.size, 7, none⟩ = some (.bool pu) ∧ w'.cell? ⟨vb, pb, none⟩ = some (.string sb) ∧ w'.cell? ⟨vb, pb + 1, none⟩ = some (.int .i64 vo) ∧ w'.cell? ⟨vb, pb + 2, none⟩ = some (.int .i64 mo) ∧ w'.cell? ⟨vb, pb + 3, none⟩ = some (.int .i64 b0) ∧ w'.cell? ⟨vb, pb + 4, none⟩ = some (.int .i64 b1) ∧ w'.cell? ⟨vb, pb + 5, none⟩ = some (.int .i64 b2) ∧ w'.cell? ⟨rb, 7, none⟩ = some (.int .i64 day))) (by kernel_rfl) (by simp [go_sem, cP, *]) (fun hHeld => ?_)
    refine tkA 0 33 rfl ?_
    refine tkA 1 34 rfl ?_
    refine tkA 2 35 rfl ?_
    refine skH 3 ⟨some 36, _, _, _, _, _⟩ rfl (by assumption) ?_
    try simp only [Act.put, sA, sB, sC]
    refine skH 4 ⟨some 37, _, _, _, _, _⟩ rfl (by assumption) ?_
    try simp only [Act.put, sA, sB, sC]
    refine skH 5 ⟨some 38, _, _, _, _, _⟩ rfl (by assumption) ?_
    try simp only [Act.put, sA, sB, sC]
    refine skH 6 ⟨some 39, _, _, _, _, _⟩ rfl (by assumption) ?_
    try simp only [Act.put, sA, sB, sC]
    refine skH 7 ⟨some 40, _, _, _, _, _⟩ rfl (by assumption) ?_
    try simp only [Act.put, sA, sB, sC]
    refine skH 8 ⟨some 41, _, _, _, _, _⟩ rfl (by assumption) ?_
    try simp only [Act.put, sA, sB, sC]
    refine skH 9 ⟨some 42, _, _, _, _, _⟩ rfl (by assumption) ?_
    try simp only [Act.put, sA, sB, sC]
    refine skH 10 ⟨some 43, _, _, _, _, _⟩ rfl (by assumption) ?_
    try simp only [Act.put, sA, sB, sC]
    refine tkA 11 44 rfl ?_
    refine tkA 12 32 rfl ?_
    refine wpAnyH_done (by kernel_rfl) ?_ _
    go_upto_region 8 with (fail)
    refine wp_region_held_drew (S := (fun w' => w'.cell? ⟨w.heap.size, 0, none⟩ = some (.int .i64 0) ∧ w'.cell? ⟨w.heap.size, 1, none⟩ = some (.int .i64 d) ∧ w'.cell? ⟨w.heap.size, 2, none⟩ = some (.string fr) ∧ w'.cell? ⟨w.heap.size, 3, none⟩ = some (.string tz) ∧ w'.cell? ⟨w.heap.size, 4, none⟩ = some (.int .i64 o) ∧ w'.cell? ⟨w.heap.size, 5, none⟩ = some (.int .i64 h) ∧ w'.cell? ⟨w.heap.size, 6, none⟩ = some (.int .i64 am) ∧ w'.cell? ⟨w.heap.size, 7, none⟩ = some (.bool pu) ∧ w'.cell? ⟨vb, pb, none⟩ = some (.string sb) ∧ w'.cell? ⟨vb, pb + 1, none⟩ = some (.int .i64 vo) ∧ w'.cell? ⟨vb, pb + 2, none⟩ = some (.int .i64 mo) ∧ w'.cell? ⟨vb, pb + 3, none⟩ = some (.int .i64 b0) ∧ w'.cell? ⟨vb, pb + 4, none⟩ = some (.int .i64 b1) ∧ w'.cell? ⟨vb, pb + 5, none⟩ = some (.int .i64 b2) ∧ w'.cell? ⟨rb, 7, none⟩ = some (.int .i64 day))) (by kernel_rfl) (by simp [go_sem, cP, *]) (fun hHeld => ?_)
    refine tkA 0 46 rfl ?_
    refine tkA 1 47 rfl ?_
    refine tkA 2 48 rfl ?_
    refine tkA 3 49 rfl ?_
    refine tkA 4 50 rfl ?_
    refine tkA 5 51 rfl ?_
    refine tkA 6 52 rfl ?_
    refine tkA 7 53 rfl ?_
    refine tkA 9 55 rfl ?_
    refine tkA 10 56 rfl ?_
    refine tkA 11 57 rfl ?_
    refine tkA 12 58 rfl ?_
    refine tkA 13 59 rfl ?_
    refine tkA 14 60 rfl ?_
    refine rdA 8 rfl (fun K hK => ?_)
    go_simp
    refine (pressureWith_any sb vo mo b0 b1 b2 am SB P _ hcB hSB (by omega) (by omega) (by omega) (by omega) hP).mono ?_
    rintro e xw1 ⟨rfl, hbx1⟩
    have zx1 := hbx1.size
    try simp at zx1
    obtain ⟨x1A0, x1A1, x1A2, x1A3, x1A4, x1A5, x1A6, x1A7, x1B0, x1B1, x1B2, x1B3, x1B4, x1B5, x1C0⟩ : xw1.cell? ⟨w.heap.size, 0, none⟩ = some (.int .i64 0) ∧ xw1.cell? ⟨w.heap.size, 1, none⟩ = some (.int .i64 d) ∧ xw1.cell? ⟨w.heap.size, 2, none⟩ = some (.string fr) ∧ xw1.cell? ⟨w.heap.size, 3, none⟩ = some (.string tz) ∧ xw1.cell? ⟨w.heap.size, 4, none⟩ = some (.int .i64 o) ∧ xw1.cell? ⟨w.heap.size, 5, none⟩ = some (.int .i64 h) ∧ xw1.cell? ⟨w.heap.size, 6, none⟩ = some (.int .i64 am) ∧ xw1.cell? ⟨w.heap.size, 7, none⟩ = some (.bool pu) ∧ xw1.cell? ⟨vb, pb, none⟩ = some (.string sb) ∧ xw1.cell? ⟨vb, pb + 1, none⟩ = some (.int .i64 vo) ∧ xw1.cell? ⟨vb, pb + 2, none⟩ = some (.int .i64 mo) ∧ xw1.cell? ⟨vb, pb + 3, none⟩ = some (.int .i64 b0) ∧ xw1.cell? ⟨vb, pb + 4, none⟩ = some (.int .i64 b1) ∧ xw1.cell? ⟨vb, pb + 5, none⟩ = some (.int .i64 b2) ∧ xw1.cell? ⟨rb, 7, none⟩ = some (.int .i64 day) := by refine ⟨?_, ?_, ?_, ?_, ?_, ?_, ?_, ?_, ?_, ?_, ?_, ?_, ?_, ?_, ?_⟩ <;> (rw [bc1 hbx1]; simp [go_sem, cP, *])
    obtain ⟨x1o0, x1n0, x1o1, x1n1, x1o2, x1n2⟩ : w.heap.size < xw1.heap.size ∧ xw1.heap.size ≠ w.heap.size ∧ vb < xw1.heap.size ∧ xw1.heap.size ≠ vb ∧ rb < xw1.heap.size ∧ xw1.heap.size ≠ rb := by refine ⟨?_, ?_, ?_, ?_, ?_, ?_⟩ <;> omega
    have hBx1 : Below w.heap.size w xw1 := belA
    clear hbx1 
    go_wp2_with fail
    refine hK.out _ _ (by simp [go_sem, cP, *]) (fun hHeld => ?_)
    clear hK K
    try simp only [Act.put, sA, sB, sC]
    refine rdA 15 rfl (fun K hK => ?_)
    go_simp
    refine (compare_any P vo mo 1 c _ (by omega) (by omega) (by omega) (by omega) (by omega) (by omega) (by omega) (by omega) hc).mono ?_
    rintro e xw2 ⟨rfl, hbx2⟩
    have zx2 := hbx2.size
    try simp at zx2
    obtain ⟨x2A0, x2A1, x2A2, x2A3, x2A4, x2A5, x2A6, x2A7, x2B0, x2B1, x2B2, x2B3, x2B4, x2B5, x2C0⟩ : xw2.cell? ⟨w.heap.size, 0, none⟩ = some (.int .i64 0) ∧ xw2.cell? ⟨w.heap.size, 1, none⟩ = some (.int .i64 d) ∧ xw2.cell? ⟨w.heap.size, 2, none⟩ = some (.string fr) ∧ xw2.cell? ⟨w.heap.size, 3, none⟩ = some (.string tz) ∧ xw2.cell? ⟨w.heap.size, 4, none⟩ = some (.int .i64 o) ∧ xw2.cell? ⟨w.heap.size, 5, none⟩ = some (.int .i64 h) ∧ xw2.cell? ⟨w.heap.size, 6, none⟩ = some (.int .i64 am) ∧ xw2.cell? ⟨w.heap.size, 7, none⟩ = some (.bool pu) ∧ xw2.cell? ⟨vb, pb, none⟩ = some (.string sb) ∧ xw2.cell? ⟨vb, pb + 1, none⟩ = some (.int .i64 vo) ∧ xw2.cell? ⟨vb, pb + 2, none⟩ = some (.int .i64 mo) ∧ xw2.cell? ⟨vb, pb + 3, none⟩ = some (.int .i64 b0) ∧ xw2.cell? ⟨vb, pb + 4, none⟩ = some (.int .i64 b1) ∧ xw2.cell? ⟨vb, pb + 5, none⟩ = some (.int .i64 b2) ∧ xw2.cell? ⟨rb, 7, none⟩ = some (.int .i64 day) := by refine ⟨?_, ?_, ?_, ?_, ?_, ?_, ?_, ?_, ?_, ?_, ?_, ?_, ?_, ?_, ?_⟩ <;> (rw [bc1 hbx2]; simp [go_sem, cP, *])
    obtain ⟨x2o0, x2n0, x2o1, x2n1, x2o2, x2n2⟩ : w.heap.size < xw2.heap.size ∧ xw2.heap.size ≠ w.heap.size ∧ vb < xw2.heap.size ∧ xw2.heap.size ≠ vb ∧ rb < xw2.heap.size ∧ xw2.heap.size ≠ rb := by refine ⟨?_, ?_, ?_, ?_, ?_, ?_⟩ <;> omega
    have hBx2 : Below w.heap.size w xw2 := belA
    clear hbx2 x1A0 x1A1 x1A2 x1A3 x1A4 x1A5 x1A6 x1A7 x1B0 x1B1 x1B2 x1B3 x1B4 x1B5 x1C0 x1o0 x1n0 x1o1 x1n1 x1o2 x1n2 hBx1
    go_wp2_with fail
    refine hK.out _ _ (by simp [go_sem, cP, *]) (fun hHeld => ?_)
    clear hK K
    try simp only [Act.put, sA, sB, sC]
    refine tkA 16 62 rfl ?_
    refine tkA 17 63 rfl ?_
    refine tkA 18 45 rfl ?_
    refine wpAnyH_done (by kernel_rfl) ?_ _
    by_cases hf : 0 < c
    · have hr : Hid ((16 : Int) = E) := Lib.hid (by rw [← hE.out]; unfold pos0; rw [if_neg (by omega), if_pos (hcs.out.1 hf)])
      go_wp2
      go_ret
      exact ⟨ret_int hr.out, belA⟩
    · have hr : Hid ((0 : Int) = E) := Lib.hid (by rw [← hE.out]; unfold pos0; rw [if_neg (by omega), if_neg (fun hx => by have := hcs.out.2 hx; omega)])
      go_upto_region 10 with (fail)
      refine wp_region_held_drew (S := (fun w' => w'.cell? ⟨w.heap.size, 0, none⟩ = some (.int .i64 0) ∧ w'.cell? ⟨w.heap.size, 1, none⟩ = some (.int .i64 d) ∧ w'.cell? ⟨w.heap.size, 2, none⟩ = some (.string fr) ∧ w'.cell? ⟨w.heap.size, 3, none⟩ = some (.string tz) ∧ w'.cell? ⟨w.heap.size, 4, none⟩ = some (.int .i64 o) ∧ w'.cell? ⟨w.heap.size, 5, none⟩ = some (.int .i64 h) ∧ w'.cell? ⟨w.heap.size, 6, none⟩ = some (.int .i64 am) ∧ w'.cell? ⟨w.heap.size, 7, none⟩ = some (.bool pu) ∧ w'.cell? ⟨vb, pb, none⟩ = some (.string sb) ∧ w'.cell? ⟨vb, pb + 1, none⟩ = some (.int .i64 vo) ∧ w'.cell? ⟨vb, pb + 2, none⟩ = some (.int .i64 mo) ∧ w'.cell? ⟨vb, pb + 3, none⟩ = some (.int .i64 b0) ∧ w'.cell? ⟨vb, pb + 4, none⟩ = some (.int .i64 b1) ∧ w'.cell? ⟨vb, pb + 5, none⟩ = some (.int .i64 b2) ∧ w'.cell? ⟨rb, 7, none⟩ = some (.int .i64 day))) (by kernel_rfl) (by simp [go_sem, cP, *]) (fun hHeld => ?_)
      refine tkA 0 65 rfl ?_
      refine tkA 1 66 rfl ?_
      refine tkA 2 67 rfl ?_
      refine tkA 3 68 rfl ?_
      refine skH 4 ⟨some 69, _, _, _, _, _⟩ rfl (by assumption) ?_
      try simp only [Act.put, sA, sB, sC]
      refine skH 5 ⟨some 70, _, _, _, _, _⟩ rfl (by assumption) ?_
      try simp only [Act.put, sA, sB, sC]
      refine skH 6 ⟨some 71, _, _, _, _, _⟩ rfl (by assumption) ?_
      try simp only [Act.put, sA, sB, sC]
      refine tkA 7 72 rfl ?_
      refine tkA 8 73 rfl ?_
      refine skH 9 ⟨some 74, _, _, _, _, _⟩ rfl (by assumption) ?_
      try simp only [Act.put, sA, sB, sC]
      refine skH 10 ⟨some 75, _, _, _, _, _⟩ rfl (by assumption) ?_
      try simp only [Act.put, sA, sB, sC]
      refine skH 11 ⟨some 76, _, _, _, _, _⟩ rfl (by assumption) ?_
      try simp only [Act.put, sA, sB, sC]
      refine skH 12 ⟨some 77, _, _, _, _, _⟩ rfl (by assumption) ?_
      try simp only [Act.put, sA, sB, sC]
      refine skH 13 ⟨some 78, _, _, _, _, _⟩ rfl (by assumption) ?_
      try simp only [Act.put, sA, sB, sC]
      refine skH 14 ⟨some 79, _, _, _, _, _⟩ rfl (by assumption) ?_
      try simp only [Act.put, sA, sB, sC]
      refine skH 15 ⟨some 80, _, _, _, _, _⟩ rfl (by assumption) ?_
      try simp only [Act.put, sA, sB, sC]
      refine skH 16 ⟨some 81, _, _, _, _, _⟩ rfl (by assumption) ?_
      try simp only [Act.put, sA, sB, sC]
      refine skH 17 ⟨some 82, _, _, _, _, _⟩ rfl (by assumption) ?_
      try simp only [Act.put, sA, sB, sC]
      refine skH 18 ⟨some 83, _, _, _, _, _⟩ rfl (by assumption) ?_
      try simp only [Act.put, sA, sB, sC]
      refine skH 19 ⟨some 84, _, _, _, _, _⟩ rfl (by assumption) ?_
      try simp only [Act.put, sA, sB, sC]
      refine skH 20 ⟨some 85, _, _, _, _, _⟩ rfl (by assumption) ?_
      try simp only [Act.put, sA, sB, sC]
      refine skH 21 ⟨some 86, _, _, _, _, _⟩ rfl (by assumption) ?_
      try simp only [Act.put, sA, sB, sC]
      refine skH 22 ⟨some 87, _, _, _, _, _⟩ rfl (by assumption) ?_
      try simp only [Act.put, sA, sB, sC]
      refine skH 23 ⟨some 88, _, _, _, _, _⟩ rfl (by assumption) ?_
      try simp only [Act.put, sA, sB, sC]
      refine tkA 24 89 rfl ?_
      refine tkA 25 64 rfl ?_
      refine wpAnyH_done (by kernel_rfl) ?_ _
      go_wp2
      go_ret
      exact ⟨ret_int hr.out, belA⟩
set_option maxHeartbeats 4000000 in
set_option maxRecDepth 100000 in
theorem pos_1t (rb vb pa pb : Nat) (d am o h day : Int) (fr tz sa sb : ByteArray) (pu : Bool) (va ma a0 a1 a2 SA : Int) (vo mo b0 b1 b2 SB : Int) (E : Int) (w : World) (hE : Hid (pos1 d day am true SA va SB vo mo = E)) (r7 : w.cell? ⟨rb, 7, none⟩ = some (.int .i64 day)) (xa0 : w.cell? ⟨vb, pa, none⟩ = some (.string sa)) (xa1 : w.cell? ⟨vb, pa + 1, none⟩ = some (.int .i64 va)) (xa2 : w.cell? ⟨vb, pa + 2, none⟩ = some (.int .i64 ma)) (xa3 : w.cell? ⟨vb, pa + 3, none⟩ = some (.int .i64 a0)) (xa4 : w.cell? ⟨vb, pa + 4, none⟩ = some (.int .i64 a1)) (xa5 : w.cell? ⟨vb, pa + 5, none⟩ = some (.int .i64 a2)) (xb0 : w.cell? ⟨vb, pb, none⟩ = some (.string sb)) (xb1 : w.cell? ⟨vb, pb + 1, none⟩ = some (.int .i64 vo)) (xb2 : w.cell? ⟨vb, pb + 2, none⟩ = some (.int .i64 mo)) (xb3 : w.cell? ⟨vb, pb + 3, none⟩ = some (.int .i64 b0)) (xb4 : w.cell? ⟨vb, pb + 4, none⟩ = some (.int .i64 b1)) (xb5 : w.cell? ⟨vb, pb + 5, none⟩ = some (.int .i64 b2)) (hcA : Hid (conB a0 a1 a2 = true)) (hSA : Hid (a0 + a1 + a2 = SA)) (u1 : 1 ≤ va) (u2 : va ≤ 1000000000) (hcB : Hid (conB b0 b1 b2 = true)) (hSB : Hid (b0 + b1 + b2 = SB)) (v1 : 1 ≤ vo) (v2 : vo ≤ 1000000000) (m1 : 1 ≤ mo) (m2 : mo ≤ 1000000000) (am1 : 1 ≤ am) (am2 : am ≤ 1000000000) (lv : vb < w.heap.size) (lr : rb < w.heap.size) : Calls Try.prog 97 #[.pointer (some ⟨rb, 0, none⟩), .agg #[.int .i64 1, .int .i64 d, .string fr, .string tz, .int .i64 o, .int .i64 h, .int .i64 am, .bool true], .pointer (some ⟨vb, pa, none⟩), .pointer (some ⟨vb, pb, none⟩)] w fun e w' => e = .returned (.int .i64 E) ∧ Below w.heap.size w w' := by
  have o1 : vb ≠ w.heap.size := by omega
  have o2 : rb ≠ w.heap.size := by omega
  have o3 : vb < w.heap.size + 1 := by omega
  have o4 : rb < w.heap.size + 1 := by omega
  have cA := con_sum hcA.out
  rw [hSA.out] at cA
  obtain ⟨sA0, sA1, -⟩ := cA
  have cB := con_sum hcB.out
  rw [hSB.out] at cB
  obtain ⟨sB0, sB1, -⟩ := cB
  obtain ⟨P, hP⟩ : ∃ P, Hid (1000 * (SB + am) = P) := ⟨_, Lib.hid rfl⟩
  obtain ⟨pP0, pP1⟩ : 0 ≤ P ∧ P ≤ 4000000000000000000 := by have := hP.out; omega
  obtain ⟨c, hc⟩ : ∃ c, Hid (ratI P vo mo 1 = c) := ⟨_, Lib.hid rfl⟩
  have hcs : Hid (0 < c ↔ mo * vo < 1000 * (SB + am)) := Lib.hid (by have := (ratI_sgn (n := P) (d := vo) (m := mo) (e := 1) (by omega) (by omega) (by omega) (by omega)).1; rw [hc.out, ← hP.out, Int.mul_one] at this; exact this)
  go_enter Try.func97, Try.ntmps97
  go_upto_region 4 with (fail)
  refine wp_region_held_drew (S := (fun w' => w'.cell? ⟨w.heap.size, 0, none⟩ = some (.int .i64 1) ∧ w'.cell? ⟨w.heap.size, 1, none⟩ = some (.int .i64 d) ∧ w'.cell? ⟨w.heap.size, 2, none⟩ = some (.string fr) ∧ w'.cell? ⟨w.heap.size, 3, none⟩ = some (.string tz) ∧ w'.cell? ⟨w.heap.size, 4, none⟩ = some (.int .i64 o) ∧ w'.cell? ⟨w.heap.size, 5, none⟩ = some (.int .i64 h) ∧ w'.cell? ⟨w.heap.size, 6, none⟩ = some (.int .i64 am) ∧ w'.cell? ⟨w.heap.size, 7, none⟩ = some (.bool true) ∧ w'.cell? ⟨rb, 7, none⟩ = some (.int .i64 day))) (by kernel_rfl) (by simp [go_sem, cP, *]) (fun hHeld => ?_)
  refine tkA 0 25 rfl ?_
  refine tkA 1 26 rfl ?_
  refine tkA 2 27 rfl ?_
  refine tkA 3 28 rfl ?_
  refine tkA 4 29 rfl ?_
  refine tkA 5 30 rfl ?_
  refine tkA 6 31 rfl ?_
  refine tkA 7 24 rfl ?_
  refine wpAnyH_done (by kernel_rfl) ?_ _
  by_cases hd : d < day
  · have hr : Hid ((9 : Int) = E) := Lib.hid (by rw [← hE.out]; unfold pos1; rw [if_pos hd])
    go_wp2
    go_ret
    exact ⟨ret_int hr.out, belA⟩
  · skip
    go_upto_region 6 with (fail)
    refine wp_region_held_drew (S := (fun w' => w'.cell? ⟨w.heap.size, 0, none⟩ = some (.int .i64 1) ∧ w'.cell? ⟨w.heap.size, 1, none⟩ = some (.int .i64 d) ∧ w'.cell? ⟨w.heap.size, 2, none⟩ = some (.string fr) ∧ w'.cell? ⟨w.heap.size, 3, none⟩ = some (.string tz) ∧ w'.cell? ⟨w.heap.size, 4, none⟩ = some (.int .i64 o) ∧ w'.cell? ⟨w.heap.size, 5, none⟩ = some (.int .i64 h) ∧ w'.cell? ⟨w.heap.size, 6, none⟩ = some (.int .i64 am) ∧ w'.cell? ⟨w.heap.size, 7, none⟩ = some (.bool true) ∧ w'.cell? ⟨vb, pa, none⟩ = some (.string sa) ∧ w'.cell? ⟨vb, pa + 1, none⟩ = some (.int .i64 va) ∧ w'.cell? ⟨vb, pa + 2, none⟩ = some (.int .i64 ma) ∧ w'.cell? ⟨vb, pa + 3, none⟩ = some (.int .i64 a0) ∧ w'.cell? ⟨vb, pa + 4, none⟩ = some (.int .i64 a1) ∧ w'.cell? ⟨vb, pa + 5, none⟩ = some (.int .i64 a2) ∧ w'.cell? ⟨vb, pb, none⟩ = some (.string sb) ∧ w'.cell? ⟨vb, pb + 1, none⟩ = some (.int .i64 vo) ∧ w'.cell? ⟨vb, pb + 2, none⟩ = some (.int .i64 mo) ∧ w'.cell? ⟨vb, pb + 3, none⟩ = some (.int .i64 b0) ∧ w'.cell? ⟨vb, pb + 4, none⟩ = some (.int .i64 b1) ∧ w'.cell? ⟨vb, pb + 5, none⟩ = some (.int .i64 b2) ∧ w'.cell? ⟨rb, 7, none⟩ = some (.int .i64 day))) (by kernel_rfl) (by simp [go_sem, cP, *]) (fun hHeld => ?_)
    refine tkA 0 33 rfl ?_
    refine tkA 1 34 rfl ?_
    refine tkA 2 35 rfl ?_
    refine tkA 3 36 rfl ?_
    refine tkA 4 37 rfl ?_
    refine tkA 5 38 rfl ?_
    refine tkA 6 39 rfl ?_
    refine tkA 8 41 rfl ?_
    refine tkA 9 42 rfl ?_
    refine rdA 7 rfl (fun K hK => ?_)
    go_simp
    refine (sumOf_ok a0 a1 a2 SA _ hcA hSA).mono ?_
    rintro e xw1 ⟨rfl, hbx1⟩
    have zx1 := hbx1.size
    try simp at zx1
    obtain ⟨x1A0, x1A1, x1A2, x1A3, x1A4, x1A5, x1A6, x1A7, x1B0, x1B1, x1B2, x1B3, x1B4, x1B5, x1B6, x1B7, x1B8, x1B9, x1B10, x1B11, x1C0⟩ : xw1.cell? ⟨w.heap.size, 0, none⟩ = some (.int .i64 1) ∧ xw1.cell? ⟨w.heap.size, 1, none⟩ = some (.int .i64 d) ∧ xw1.cell? ⟨w.heap.size, 2, none⟩ = some (.string fr) ∧ xw1.cell? ⟨w.heap.size, 3, none⟩ = some (.string tz) ∧ xw1.cell? ⟨w.heap.size, 4, none⟩ = some (.int .i64 o) ∧ xw1.cell? ⟨w.heap.size, 5, none⟩ = some (.int .i64 h) ∧ xw1.cell? ⟨w.heap.size, 6, none⟩ = some (.int .i64 am) ∧ xw1.cell? ⟨w.heap.size, 7, none⟩ = some (.bool true) ∧ xw1.cell? ⟨vb, pa, none⟩ = some (.string sa) ∧ xw1.cell? ⟨vb, pa + 1, none⟩ = some (.int .i64 va) ∧ xw1.cell? ⟨vb, pa + 2, none⟩ = some (.int .i64 ma) ∧ xw1.cell? ⟨vb, pa + 3, none⟩ = some (.int .i64 a0) ∧ xw1.cell? ⟨vb, pa + 4, none⟩ = some (.int .i64 a1) ∧ xw1.cell? ⟨vb, pa + 5, none⟩ = some (.int .i64 a2) ∧ xw1.cell? ⟨vb, pb, none⟩ = some (.string sb) ∧ xw1.cell? ⟨vb, pb + 1, none⟩ = some (.int .i64 vo) ∧ xw1.cell? ⟨vb, pb + 2, none⟩ = some (.int .i64 mo) ∧ xw1.cell? ⟨vb, pb + 3, none⟩ = some (.int .i64 b0) ∧ xw1.cell? ⟨vb, pb + 4, none⟩ = some (.int .i64 b1) ∧ xw1.cell? ⟨vb, pb + 5, none⟩ = some (.int .i64 b2) ∧ xw1.cell? ⟨rb, 7, none⟩ = some (.int .i64 day) := by refine ⟨?_, ?_, ?_, ?_, ?_, ?_, ?_, ?_, ?_, ?_, ?_, ?_, ?_, ?_, ?_, ?_, ?_, ?_, ?_, ?_, ?_⟩ <;> (rw [bc1 hbx1]; simp [go_sem, cP, *])
    obtain ⟨x1o0, x1n0, x1o1, x1n1, x1o2, x1n2⟩ : w.heap.size < xw1.heap.size ∧ xw1.heap.size ≠ w.heap.size ∧ vb < xw1.heap.size ∧ xw1.heap.size ≠ vb ∧ rb < xw1.heap.size ∧ xw1.heap.size ≠ rb := by refine ⟨?_, ?_, ?_, ?_, ?_, ?_⟩ <;> omega
    have hBx1 : Below w.heap.size w xw1 := belA
    clear hbx1 
    go_wp2_with fail
    refine hK.out _ _ (by simp [go_sem, cP, *]) (fun hHeld => ?_)
    clear hK K
    try simp only [Act.put, sA, sB, sC]
    refine tkA 10 43 rfl ?_
    refine tkA 11 44 rfl ?_
    refine tkA 12 32 rfl ?_
    refine wpAnyH_done (by kernel_rfl) ?_ _
    by_cases hs : SA < am
    · have hr : Hid ((20 : Int) = E) := Lib.hid (by rw [← hE.out]; unfold pos1; rw [if_neg (by omega), if_pos hs])
      go_wp2
      go_ret
      exact ⟨ret_int hr.out, belA⟩
    · skip
      go_upto_region 8 with (fail)
      refine wp_region_held_drew (S := (fun w' => w'.cell? ⟨w.heap.size, 0, none⟩ = some (.int .i64 1) ∧ w'.cell? ⟨w.heap.size, 1, none⟩ = some (.int .i64 d) ∧ w'.cell? ⟨w.heap.size, 2, none⟩ = some (.string fr) ∧ w'.cell? ⟨w.heap.size, 3, none⟩ = some (.string tz) ∧ w'.cell? ⟨w.heap.size, 4, none⟩ = some (.int .i64 o) ∧ w'.cell? ⟨w.heap.size, 5, none⟩ = some (.int .i64 h) ∧ w'.cell? ⟨w.heap.size, 6, none⟩ = some (.int .i64 am) ∧ w'.cell? ⟨w.heap.size, 7, none⟩ = some (.bool true) ∧ w'.cell? ⟨vb, pa, none⟩ = some (.string sa) ∧ w'.cell? ⟨vb, pa + 1, none⟩ = some (.int .i64 va) ∧ w'.cell? ⟨vb, pa + 2, none⟩ = some (.int .i64 ma) ∧ w'.cell? ⟨vb, pa + 3, none⟩ = some (.int .i64 a0) ∧ w'.cell? ⟨vb, pa + 4, none⟩ = some (.int .i64 a1) ∧ w'.cell? ⟨vb, pa + 5, none⟩ = some (.int .i64 a2) ∧ w'.cell? ⟨vb, pb, none⟩ = some (.string sb) ∧ w'.cell? ⟨vb, pb + 1, none⟩ = some (.int .i64 vo) ∧ w'.cell? ⟨vb, pb + 2, none⟩ = some (.int .i64 mo) ∧ w'.cell? ⟨vb, pb + 3, none⟩ = some (.int .i64 b0) ∧ w'.cell? ⟨vb, pb + 4, none⟩ = some (.int .i64 b1) ∧ w'.cell? ⟨vb, pb + 5, none⟩ = some (.int .i64 b2) ∧ w'.cell? ⟨rb, 7, none⟩ = some (.int .i64 day))) (by kernel_rfl) (by simp [go_sem, cP, *]) (fun hHeld => ?_)
      refine tkA 0 46 rfl ?_
      refine tkA 1 47 rfl ?_
      refine tkA 2 48 rfl ?_
      refine tkA 3 49 rfl ?_
      refine tkA 4 50 rfl ?_
      refine tkA 5 51 rfl ?_
      refine tkA 6 52 rfl ?_
      refine tkA 7 53 rfl ?_
      refine tkA 9 55 rfl ?_
      refine tkA 10 56 rfl ?_
      refine tkA 11 57 rfl ?_
      refine tkA 12 58 rfl ?_
      refine tkA 13 59 rfl ?_
      refine tkA 14 60 rfl ?_
      refine rdA 8 rfl (fun K hK => ?_)
      go_simp
      refine (pressureWith_any sb vo mo b0 b1 b2 am SB P _ hcB hSB (by omega) (by omega) (by omega) (by omega) hP).mono ?_
      rintro e xw2 ⟨rfl, hbx2⟩
      have zx2 := hbx2.size
      try simp at zx2
      obtain ⟨x2A0, x2A1, x2A2, x2A3, x2A4, x2A5, x2A6, x2A7, x2B0, x2B1, x2B2, x2B3, x2B4, x2B5, x2B6, x2B7, x2B8, x2B9, x2B10, x2B11, x2C0⟩ : xw2.cell? ⟨w.heap.size, 0, none⟩ = some (.int .i64 1) ∧ xw2.cell? ⟨w.heap.size, 1, none⟩ = some (.int .i64 d) ∧ xw2.cell? ⟨w.heap.size, 2, none⟩ = some (.string fr) ∧ xw2.cell? ⟨w.heap.size, 3, none⟩ = some (.string tz) ∧ xw2.cell? ⟨w.heap.size, 4, none⟩ = some (.int .i64 o) ∧ xw2.cell? ⟨w.heap.size, 5, none⟩ = some (.int .i64 h) ∧ xw2.cell? ⟨w.heap.size, 6, none⟩ = some (.int .i64 am) ∧ xw2.cell? ⟨w.heap.size, 7, none⟩ = some (.bool true) ∧ xw2.cell? ⟨vb, pa, none⟩ = some (.string sa) ∧ xw2.cell? ⟨vb, pa + 1, none⟩ = some (.int .i64 va) ∧ xw2.cell? ⟨vb, pa + 2, none⟩ = some (.int .i64 ma) ∧ xw2.cell? ⟨vb, pa + 3, none⟩ = some (.int .i64 a0) ∧ xw2.cell? ⟨vb, pa + 4, none⟩ = some (.int .i64 a1) ∧ xw2.cell? ⟨vb, pa + 5, none⟩ = some (.int .i64 a2) ∧ xw2.cell? ⟨vb, pb, none⟩ = some (.string sb) ∧ xw2.cell? ⟨vb, pb + 1, none⟩ = some (.int .i64 vo) ∧ xw2.cell? ⟨vb, pb + 2, none⟩ = some (.int .i64 mo) ∧ xw2.cell? ⟨vb, pb + 3, none⟩ = some (.int .i64 b0) ∧ xw2.cell? ⟨vb, pb + 4, none⟩ = some (.int .i64 b1) ∧ xw2.cell? ⟨vb, pb + 5, none⟩ = some (.int .i64 b2) ∧ xw2.cell? ⟨rb, 7, none⟩ = some (.int .i64 day) := by refine ⟨?_, ?_, ?_, ?_, ?_, ?_, ?_, ?_, ?_, ?_, ?_, ?_, ?_, ?_, ?_, ?_, ?_, ?_, ?_, ?_, ?_⟩ <;> (rw [bc1 hbx2]; simp [go_sem, cP, *])
      obtain ⟨x2o0, x2n0, x2o1, x2n1, x2o2, x2n2⟩ : w.heap.size < xw2.heap.size ∧ xw2.heap.size ≠ w.heap.size ∧ vb < xw2.heap.size ∧ xw2.heap.size ≠ vb ∧ rb < xw2.heap.size ∧ xw2.heap.size ≠ rb := by refine ⟨?_, ?_, ?_, ?_, ?_, ?_⟩ <;> omega
      have hBx2 : Below w.heap.size w xw2 := belA
      clear hbx2 x1A0 x1A1 x1A2 x1A3 x1A4 x1A5 x1A6 x1A7 x1B0 x1B1 x1B2 x1B3 x1B4 x1B5 x1B6 x1B7 x1B8 x1B9 x1B10 x1B11 x1C0 x1o0 x1n0 x1o1 x1n1 x1o2 x1n2 hBx1
      go_wp2_with fail
      refine hK.out _ _ (by simp [go_sem, cP, *]) (fun hHeld => ?_)
      clear hK K
      try simp only [Act.put, sA, sB, sC]
      refine rdA 15 rfl (fun K hK => ?_)
      go_simp
      refine (compare_any P vo mo 1 c _ (by omega) (by omega) (by omega) (by omega) (by omega) (by omega) (by omega) (by omega) hc).mono ?_
      rintro e xw3 ⟨rfl, hbx3⟩
      have zx3 := hbx3.size
      try simp at zx3
      obtain ⟨x3A0, x3A1, x3A2, x3A3, x3A4, x3A5, x3A6, x3A7, x3B0, x3B1, x3B2, x3B3, x3B4, x3B5, x3B6, x3B7, x3B8, x3B9, x3B10, x3B11, x3C0⟩ : xw3.cell? ⟨w.heap.size, 0, none⟩ = some (.int .i64 1) ∧ xw3.cell? ⟨w.heap.size, 1, none⟩ = some (.int .i64 d) ∧ xw3.cell? ⟨w.heap.size, 2, none⟩ = some (.string fr) ∧ xw3.cell? ⟨w.heap.size, 3, none⟩ = some (.string tz) ∧ xw3.cell? ⟨w.heap.size, 4, none⟩ = some (.int .i64 o) ∧ xw3.cell? ⟨w.heap.size, 5, none⟩ = some (.int .i64 h) ∧ xw3.cell? ⟨w.heap.size, 6, none⟩ = some (.int .i64 am) ∧ xw3.cell? ⟨w.heap.size, 7, none⟩ = some (.bool true) ∧ xw3.cell? ⟨vb, pa, none⟩ = some (.string sa) ∧ xw3.cell? ⟨vb, pa + 1, none⟩ = some (.int .i64 va) ∧ xw3.cell? ⟨vb, pa + 2, none⟩ = some (.int .i64 ma) ∧ xw3.cell? ⟨vb, pa + 3, none⟩ = some (.int .i64 a0) ∧ xw3.cell? ⟨vb, pa + 4, none⟩ = some (.int .i64 a1) ∧ xw3.cell? ⟨vb, pa + 5, none⟩ = some (.int .i64 a2) ∧ xw3.cell? ⟨vb, pb, none⟩ = some (.string sb) ∧ xw3.cell? ⟨vb, pb + 1, none⟩ = some (.int .i64 vo) ∧ xw3.cell? ⟨vb, pb + 2, none⟩ = some (.int .i64 mo) ∧ xw3.cell? ⟨vb, pb + 3, none⟩ = some (.int .i64 b0) ∧ xw3.cell? ⟨vb, pb + 4, none⟩ = some (.int .i64 b1) ∧ xw3.cell? ⟨vb, pb + 5, none⟩ = some (.int .i64 b2) ∧ xw3.cell? ⟨rb, 7, none⟩ = some (.int .i64 day) := by refine ⟨?_, ?_, ?_, ?_, ?_, ?_, ?_, ?_, ?_, ?_, ?_, ?_, ?_, ?_, ?_, ?_, ?_, ?_, ?_, ?_, ?_⟩ <;> (rw [bc1 hbx3]; simp [go_sem, cP, *])
      obtain ⟨x3o0, x3n0, x3o1, x3n1, x3o2, x3n2⟩ : w.heap.size < xw3.heap.size ∧ xw3.heap.size ≠ w.heap.size ∧ vb < xw3.heap.size ∧ xw3.heap.size ≠ vb ∧ rb < xw3.heap.size ∧ xw3.heap.size ≠ rb := by refine ⟨?_, ?_, ?_, ?_, ?_, ?_⟩ <;> omega
      have hBx3 : Below w.heap.size w xw3 := belA
      clear hbx3 x2A0 x2A1 x2A2 x2A3 x2A4 x2A5 x2A6 x2A7 x2B0 x2B1 x2B2 x2B3 x2B4 x2B5 x2B6 x2B7 x2B8 x2B9 x2B10 x2B11 x2C0 x2o0 x2n0 x2o1 x2n1 x2o2 x2n2 hBx2
      go_wp2_with fail
      refine hK.out _ _ (by simp [go_sem, cP, *]) (fun hHeld => ?_)
      clear hK K
      try simp only [Act.put, sA, sB, sC]
      refine tkA 16 62 rfl ?_
      refine tkA 17 63 rfl ?_
      refine tkA 18 45 rfl ?_
      refine wpAnyH_done (by kernel_rfl) ?_ _
      by_cases hf : 0 < c
      · have hr : Hid ((16 : Int) = E) := Lib.hid (by rw [← hE.out]; unfold pos1; rw [if_neg (by omega), if_neg (by omega), if_pos (hcs.out.1 hf)])
        go_wp2
        go_ret
        exact ⟨ret_int hr.out, belA⟩
      · have hr : Hid ((0 : Int) = E) := Lib.hid (by rw [← hE.out]; unfold pos1; rw [if_neg (by omega), if_neg (by omega), if_neg (fun hx => by have := hcs.out.2 hx; omega), if_neg (fun hx => by simp at hx)])
        go_upto_region 10 with (fail)
        refine wp_region_held_drew (S := (fun w' => w'.cell? ⟨w.heap.size, 0, none⟩ = some (.int .i64 1) ∧ w'.cell? ⟨w.heap.size, 1, none⟩ = some (.int .i64 d) ∧ w'.cell? ⟨w.heap.size, 2, none⟩ = some (.string fr) ∧ w'.cell? ⟨w.heap.size, 3, none⟩ = some (.string tz) ∧ w'.cell? ⟨w.heap.size, 4, none⟩ = some (.int .i64 o) ∧ w'.cell? ⟨w.heap.size, 5, none⟩ = some (.int .i64 h) ∧ w'.cell? ⟨w.heap.size, 6, none⟩ = some (.int .i64 am) ∧ w'.cell? ⟨w.heap.size, 7, none⟩ = some (.bool true) ∧ w'.cell? ⟨vb, pa, none⟩ = some (.string sa) ∧ w'.cell? ⟨vb, pa + 1, none⟩ = some (.int .i64 va) ∧ w'.cell? ⟨vb, pa + 2, none⟩ = some (.int .i64 ma) ∧ w'.cell? ⟨vb, pa + 3, none⟩ = some (.int .i64 a0) ∧ w'.cell? ⟨vb, pa + 4, none⟩ = some (.int .i64 a1) ∧ w'.cell? ⟨vb, pa + 5, none⟩ = some (.int .i64 a2) ∧ w'.cell? ⟨vb, pb, none⟩ = some (.string sb) ∧ w'.cell? ⟨vb, pb + 1, none⟩ = some (.int .i64 vo) ∧ w'.cell? ⟨vb, pb + 2, none⟩ = some (.int .i64 mo) ∧ w'.cell? ⟨vb, pb + 3, none⟩ = some (.int .i64 b0) ∧ w'.cell? ⟨vb, pb + 4, none⟩ = some (.int .i64 b1) ∧ w'.cell? ⟨vb, pb + 5, none⟩ = some (.int .i64 b2) ∧ w'.cell? ⟨rb, 7, none⟩ = some (.int .i64 day))) (by kernel_rfl) (by simp [go_sem, cP, *]) (fun hHeld => ?_)
        refine tkA 0 65 rfl ?_
        refine tkA 1 66 rfl ?_
        refine tkA 2 67 rfl ?_
        refine tkA 3 68 rfl ?_
        refine tkA 4 69 rfl ?_
        refine tkA 5 70 rfl ?_
        refine tkA 6 71 rfl ?_
        refine tkA 7 72 rfl ?_
        refine tkA 8 73 rfl ?_
        refine skH 9 ⟨some 74, _, _, _, _, _⟩ rfl (by assumption) ?_
        try simp only [Act.put, sA, sB, sC]
        refine skH 10 ⟨some 75, _, _, _, _, _⟩ rfl (by assumption) ?_
        try simp only [Act.put, sA, sB, sC]
        refine skH 11 ⟨some 76, _, _, _, _, _⟩ rfl (by assumption) ?_
        try simp only [Act.put, sA, sB, sC]
        refine skH 12 ⟨some 77, _, _, _, _, _⟩ rfl (by assumption) ?_
        try simp only [Act.put, sA, sB, sC]
        refine skH 13 ⟨some 78, _, _, _, _, _⟩ rfl (by assumption) ?_
        try simp only [Act.put, sA, sB, sC]
        refine skH 14 ⟨some 79, _, _, _, _, _⟩ rfl (by assumption) ?_
        try simp only [Act.put, sA, sB, sC]
        refine skH 15 ⟨some 80, _, _, _, _, _⟩ rfl (by assumption) ?_
        try simp only [Act.put, sA, sB, sC]
        refine skH 16 ⟨some 81, _, _, _, _, _⟩ rfl (by assumption) ?_
        try simp only [Act.put, sA, sB, sC]
        refine skH 17 ⟨some 82, _, _, _, _, _⟩ rfl (by assumption) ?_
        try simp only [Act.put, sA, sB, sC]
        refine skH 18 ⟨some 83, _, _, _, _, _⟩ rfl (by assumption) ?_
        try simp only [Act.put, sA, sB, sC]
        refine skH 19 ⟨some 84, _, _, _, _, _⟩ rfl (by assumption) ?_
        try simp only [Act.put, sA, sB, sC]
        refine skH 20 ⟨some 85, _, _, _, _, _⟩ rfl (by assumption) ?_
        try simp only [Act.put, sA, sB, sC]
        refine skH 21 ⟨some 86, _, _, _, _, _⟩ rfl (by assumption) ?_
        try simp only [Act.put, sA, sB, sC]
        refine skH 22 ⟨some 87, _, _, _, _, _⟩ rfl (by assumption) ?_
        try simp only [Act.put, sA, sB, sC]
        refine skH 23 ⟨some 88, _, _, _, _, _⟩ rfl (by assumption) ?_
        try simp only [Act.put, sA, sB, sC]
        refine tkA 24 89 rfl ?_
        refine tkA 25 64 rfl ?_
        refine wpAnyH_done (by kernel_rfl) ?_ _
        go_wp2
        go_ret
        exact ⟨ret_int hr.out, belA⟩
set_option maxHeartbeats 4000000 in
set_option maxRecDepth 100000 in
theorem pos_1f (rb vb pa pb : Nat) (d am o h day : Int) (fr tz sa sb : ByteArray) (pu : Bool) (va ma a0 a1 a2 SA : Int) (vo mo b0 b1 b2 SB : Int) (E : Int) (w : World) (hE : Hid (pos1 d day am false SA va SB vo mo = E)) (r7 : w.cell? ⟨rb, 7, none⟩ = some (.int .i64 day)) (xa0 : w.cell? ⟨vb, pa, none⟩ = some (.string sa)) (xa1 : w.cell? ⟨vb, pa + 1, none⟩ = some (.int .i64 va)) (xa2 : w.cell? ⟨vb, pa + 2, none⟩ = some (.int .i64 ma)) (xa3 : w.cell? ⟨vb, pa + 3, none⟩ = some (.int .i64 a0)) (xa4 : w.cell? ⟨vb, pa + 4, none⟩ = some (.int .i64 a1)) (xa5 : w.cell? ⟨vb, pa + 5, none⟩ = some (.int .i64 a2)) (xb0 : w.cell? ⟨vb, pb, none⟩ = some (.string sb)) (xb1 : w.cell? ⟨vb, pb + 1, none⟩ = some (.int .i64 vo)) (xb2 : w.cell? ⟨vb, pb + 2, none⟩ = some (.int .i64 mo)) (xb3 : w.cell? ⟨vb, pb + 3, none⟩ = some (.int .i64 b0)) (xb4 : w.cell? ⟨vb, pb + 4, none⟩ = some (.int .i64 b1)) (xb5 : w.cell? ⟨vb, pb + 5, none⟩ = some (.int .i64 b2)) (hcA : Hid (conB a0 a1 a2 = true)) (hSA : Hid (a0 + a1 + a2 = SA)) (u1 : 1 ≤ va) (u2 : va ≤ 1000000000) (hcB : Hid (conB b0 b1 b2 = true)) (hSB : Hid (b0 + b1 + b2 = SB)) (v1 : 1 ≤ vo) (v2 : vo ≤ 1000000000) (m1 : 1 ≤ mo) (m2 : mo ≤ 1000000000) (am1 : 1 ≤ am) (am2 : am ≤ 1000000000) (lv : vb < w.heap.size) (lr : rb < w.heap.size) : Calls Try.prog 97 #[.pointer (some ⟨rb, 0, none⟩), .agg #[.int .i64 1, .int .i64 d, .string fr, .string tz, .int .i64 o, .int .i64 h, .int .i64 am, .bool false], .pointer (some ⟨vb, pa, none⟩), .pointer (some ⟨vb, pb, none⟩)] w fun e w' => e = .returned (.int .i64 E) ∧ Below w.heap.size w w' := by
  have o1 : vb ≠ w.heap.size := by omega
  have o2 : rb ≠ w.heap.size := by omega
  have o3 : vb < w.heap.size + 1 := by omega
  have o4 : rb < w.heap.size + 1 := by omega
  have cA := con_sum hcA.out
  rw [hSA.out] at cA
  obtain ⟨sA0, sA1, -⟩ := cA
  have cB := con_sum hcB.out
  rw [hSB.out] at cB
  obtain ⟨sB0, sB1, -⟩ := cB
  obtain ⟨P, hP⟩ : ∃ P, Hid (1000 * (SB + am) = P) := ⟨_, Lib.hid rfl⟩
  obtain ⟨pP0, pP1⟩ : 0 ≤ P ∧ P ≤ 4000000000000000000 := by have := hP.out; omega
  obtain ⟨c, hc⟩ : ∃ c, Hid (ratI P vo mo 1 = c) := ⟨_, Lib.hid rfl⟩
  have hcs : Hid (0 < c ↔ mo * vo < 1000 * (SB + am)) := Lib.hid (by have := (ratI_sgn (n := P) (d := vo) (m := mo) (e := 1) (by omega) (by omega) (by omega) (by omega)).1; rw [hc.out, ← hP.out, Int.mul_one] at this; exact this)
  go_enter Try.func97, Try.ntmps97
  go_upto_region 4 with (fail)
  refine wp_region_held_drew (S := (fun w' => w'.cell? ⟨w.heap.size, 0, none⟩ = some (.int .i64 1) ∧ w'.cell? ⟨w.heap.size, 1, none⟩ = some (.int .i64 d) ∧ w'.cell? ⟨w.heap.size, 2, none⟩ = some (.string fr) ∧ w'.cell? ⟨w.heap.size, 3, none⟩ = some (.string tz) ∧ w'.cell? ⟨w.heap.size, 4, none⟩ = some (.int .i64 o) ∧ w'.cell? ⟨w.heap.size, 5, none⟩ = some (.int .i64 h) ∧ w'.cell? ⟨w.heap.size, 6, none⟩ = some (.int .i64 am) ∧ w'.cell? ⟨w.heap.size, 7, none⟩ = some (.bool false) ∧ w'.cell? ⟨rb, 7, none⟩ = some (.int .i64 day))) (by kernel_rfl) (by simp [go_sem, cP, *]) (fun hHeld => ?_)
  refine tkA 0 25 rfl ?_
  refine tkA 1 26 rfl ?_
  refine tkA 2 27 rfl ?_
  refine tkA 3 28 rfl ?_
  refine tkA 4 29 rfl ?_
  refine tkA 5 30 rfl ?_
  refine tkA 6 31 rfl ?_
  refine tkA 7 24 rfl ?_
  refine wpAnyH_done (by kernel_rfl) ?_ _
  by_cases hd : d < day
  · have hr : Hid ((9 : Int) = E) := Lib.hid (by rw [← hE.out]; unfold pos1; rw [if_pos hd])
    go_wp2
    go_ret
    exact ⟨ret_int hr.out, belA⟩
  · skip
    go_upto_region 6 with (fail)
    refine wp_region_held_drew (S := (fun w' => w'.cell? ⟨w.heap.size, 0, none⟩ = some (.int .i64 1) ∧ w'.cell? ⟨w.heap.size, 1, none⟩ = some (.int .i64 d) ∧ w'.cell? ⟨w.heap.size, 2, none⟩ = some (.string fr) ∧ w'.cell? ⟨w.heap.size, 3, none⟩ = some (.string tz) ∧ w'.cell? ⟨w.heap.size, 4, none⟩ = some (.int .i64 o) ∧ w'.cell? ⟨w.heap.size, 5, none⟩ = some (.int .i64 h) ∧ w'.cell? ⟨w.heap.size, 6, none⟩ = some (.int .i64 am) ∧ w'.cell? ⟨w.heap.size, 7, none⟩ = some (.bool false) ∧ w'.cell? ⟨vb, pa, none⟩ = some (.string sa) ∧ w'.cell? ⟨vb, pa + 1, none⟩ = some (.int .i64 va) ∧ w'.cell? ⟨vb, pa + 2, none⟩ = some (.int .i64 ma) ∧ w'.cell? ⟨vb, pa + 3, none⟩ = some (.int .i64 a0) ∧ w'.cell? ⟨vb, pa + 4, none⟩ = some (.int .i64 a1) ∧ w'.cell? ⟨vb, pa + 5, none⟩ = some (.int .i64 a2) ∧ w'.cell? ⟨vb, pb, none⟩ = some (.string sb) ∧ w'.cell? ⟨vb, pb + 1, none⟩ = some (.int .i64 vo) ∧ w'.cell? ⟨vb, pb + 2, none⟩ = some (.int .i64 mo) ∧ w'.cell? ⟨vb, pb + 3, none⟩ = some (.int .i64 b0) ∧ w'.cell? ⟨vb, pb + 4, none⟩ = some (.int .i64 b1) ∧ w'.cell? ⟨vb, pb + 5, none⟩ = some (.int .i64 b2) ∧ w'.cell? ⟨rb, 7, none⟩ = some (.int .i64 day))) (by kernel_rfl) (by simp [go_sem, cP, *]) (fun hHeld => ?_)
    refine tkA 0 33 rfl ?_
    refine tkA 1 34 rfl ?_
    refine tkA 2 35 rfl ?_
    refine tkA 3 36 rfl ?_
    refine tkA 4 37 rfl ?_
    refine tkA 5 38 rfl ?_
    refine tkA 6 39 rfl ?_
    refine tkA 8 41 rfl ?_
    refine tkA 9 42 rfl ?_
    refine rdA 7 rfl (fun K hK => ?_)
    go_simp
    refine (sumOf_ok a0 a1 a2 SA _ hcA hSA).mono ?_
    rintro e xw1 ⟨rfl, hbx1⟩
    have zx1 := hbx1.size
    try simp at zx1
    obtain ⟨x1A0, x1A1, x1A2, x1A3, x1A4, x1A5, x1A6, x1A7, x1B0, x1B1, x1B2, x1B3, x1B4, x1B5, x1B6, x1B7, x1B8, x1B9, x1B10, x1B11, x1C0⟩ : xw1.cell? ⟨w.heap.size, 0, none⟩ = some (.int .i64 1) ∧ xw1.cell? ⟨w.heap.size, 1, none⟩ = some (.int .i64 d) ∧ xw1.cell? ⟨w.heap.size, 2, none⟩ = some (.string fr) ∧ xw1.cell? ⟨w.heap.size, 3, none⟩ = some (.string tz) ∧ xw1.cell? ⟨w.heap.size, 4, none⟩ = some (.int .i64 o) ∧ xw1.cell? ⟨w.heap.size, 5, none⟩ = some (.int .i64 h) ∧ xw1.cell? ⟨w.heap.size, 6, none⟩ = some (.int .i64 am) ∧ xw1.cell? ⟨w.heap.size, 7, none⟩ = some (.bool false) ∧ xw1.cell? ⟨vb, pa, none⟩ = some (.string sa) ∧ xw1.cell? ⟨vb, pa + 1, none⟩ = some (.int .i64 va) ∧ xw1.cell? ⟨vb, pa + 2, none⟩ = some (.int .i64 ma) ∧ xw1.cell? ⟨vb, pa + 3, none⟩ = some (.int .i64 a0) ∧ xw1.cell? ⟨vb, pa + 4, none⟩ = some (.int .i64 a1) ∧ xw1.cell? ⟨vb, pa + 5, none⟩ = some (.int .i64 a2) ∧ xw1.cell? ⟨vb, pb, none⟩ = some (.string sb) ∧ xw1.cell? ⟨vb, pb + 1, none⟩ = some (.int .i64 vo) ∧ xw1.cell? ⟨vb, pb + 2, none⟩ = some (.int .i64 mo) ∧ xw1.cell? ⟨vb, pb + 3, none⟩ = some (.int .i64 b0) ∧ xw1.cell? ⟨vb, pb + 4, none⟩ = some (.int .i64 b1) ∧ xw1.cell? ⟨vb, pb + 5, none⟩ = some (.int .i64 b2) ∧ xw1.cell? ⟨rb, 7, none⟩ = some (.int .i64 day) := by refine ⟨?_, ?_, ?_, ?_, ?_, ?_, ?_, ?_, ?_, ?_, ?_, ?_, ?_, ?_, ?_, ?_, ?_, ?_, ?_, ?_, ?_⟩ <;> (rw [bc1 hbx1]; simp [go_sem, cP, *])
    obtain ⟨x1o0, x1n0, x1o1, x1n1, x1o2, x1n2⟩ : w.heap.size < xw1.heap.size ∧ xw1.heap.size ≠ w.heap.size ∧ vb < xw1.heap.size ∧ xw1.heap.size ≠ vb ∧ rb < xw1.heap.size ∧ xw1.heap.size ≠ rb := by refine ⟨?_, ?_, ?_, ?_, ?_, ?_⟩ <;> omega
    have hBx1 : Below w.heap.size w xw1 := belA
    clear hbx1 
    go_wp2_with fail
    refine hK.out _ _ (by simp [go_sem, cP, *]) (fun hHeld => ?_)
    clear hK K
    try simp only [Act.put, sA, sB, sC]
    refine tkA 10 43 rfl ?_
    refine tkA 11 44 rfl ?_
    refine tkA 12 32 rfl ?_
    refine wpAnyH_done (by kernel_rfl) ?_ _
    by_cases hs : SA < am
    · have hr : Hid ((20 : Int) = E) := Lib.hid (by rw [← hE.out]; unfold pos1; rw [if_neg (by omega), if_pos hs])
      go_wp2
      go_ret
      exact ⟨ret_int hr.out, belA⟩
    · skip
      go_upto_region 8 with (fail)
      refine wp_region_held_drew (S := (fun w' => w'.cell? ⟨w.heap.size, 0, none⟩ = some (.int .i64 1) ∧ w'.cell? ⟨w.heap.size, 1, none⟩ = some (.int .i64 d) ∧ w'.cell? ⟨w.heap.size, 2, none⟩ = some (.string fr) ∧ w'.cell? ⟨w.heap.size, 3, none⟩ = some (.string tz) ∧ w'.cell? ⟨w.heap.size, 4, none⟩ = some (.int .i64 o) ∧ w'.cell? ⟨w.heap.size, 5, none⟩ = some (.int .i64 h) ∧ w'.cell? ⟨w.heap.size, 6, none⟩ = some (.int .i64 am) ∧ w'.cell? ⟨w.heap.size, 7, none⟩ = some (.bool false) ∧ w'.cell? ⟨vb, pa, none⟩ = some (.string sa) ∧ w'.cell? ⟨vb, pa + 1, none⟩ = some (.int .i64 va) ∧ w'.cell? ⟨vb, pa + 2, none⟩ = some (.int .i64 ma) ∧ w'.cell? ⟨vb, pa + 3, none⟩ = some (.int .i64 a0) ∧ w'.cell? ⟨vb, pa + 4, none⟩ = some (.int .i64 a1) ∧ w'.cell? ⟨vb, pa + 5, none⟩ = some (.int .i64 a2) ∧ w'.cell? ⟨vb, pb, none⟩ = some (.string sb) ∧ w'.cell? ⟨vb, pb + 1, none⟩ = some (.int .i64 vo) ∧ w'.cell? ⟨vb, pb + 2, none⟩ = some (.int .i64 mo) ∧ w'.cell? ⟨vb, pb + 3, none⟩ = some (.int .i64 b0) ∧ w'.cell? ⟨vb, pb + 4, none⟩ = some (.int .i64 b1) ∧ w'.cell? ⟨vb, pb + 5, none⟩ = some (.int .i64 b2) ∧ w'.cell? ⟨rb, 7, none⟩ = some (.int .i64 day))) (by kernel_rfl) (by simp [go_sem, cP, *]) (fun hHeld => ?_)
      refine tkA 0 46 rfl ?_
      refine tkA 1 47 rfl ?_
      refine tkA 2 48 rfl ?_
      refine tkA 3 49 rfl ?_
      refine tkA 4 50 rfl ?_
      refine tkA 5 51 rfl ?_
      refine tkA 6 52 rfl ?_
      refine tkA 7 53 rfl ?_
      refine tkA 9 55 rfl ?_
      refine tkA 10 56 rfl ?_
      refine tkA 11 57 rfl ?_
      refine tkA 12 58 rfl ?_
      refine tkA 13 59 rfl ?_
      refine tkA 14 60 rfl ?_
      refine rdA 8 rfl (fun K hK => ?_)
      go_simp
      refine (pressureWith_any sb vo mo b0 b1 b2 am SB P _ hcB hSB (by omega) (by omega) (by omega) (by omega) hP).mono ?_
      rintro e xw2 ⟨rfl, hbx2⟩
      have zx2 := hbx2.size
      try simp at zx2
      obtain ⟨x2A0, x2A1, x2A2, x2A3, x2A4, x2A5, x2A6, x2A7, x2B0, x2B1, x2B2, x2B3, x2B4, x2B5, x2B6, x2B7, x2B8, x2B9, x2B10, x2B11, x2C0⟩ : xw2.cell? ⟨w.heap.size, 0, none⟩ = some (.int .i64 1) ∧ xw2.cell? ⟨w.heap.size, 1, none⟩ = some (.int .i64 d) ∧ xw2.cell? ⟨w.heap.size, 2, none⟩ = some (.string fr) ∧ xw2.cell? ⟨w.heap.size, 3, none⟩ = some (.string tz) ∧ xw2.cell? ⟨w.heap.size, 4, none⟩ = some (.int .i64 o) ∧ xw2.cell? ⟨w.heap.size, 5, none⟩ = some (.int .i64 h) ∧ xw2.cell? ⟨w.heap.size, 6, none⟩ = some (.int .i64 am) ∧ xw2.cell? ⟨w.heap.size, 7, none⟩ = some (.bool false) ∧ xw2.cell? ⟨vb, pa, none⟩ = some (.string sa) ∧ xw2.cell? ⟨vb, pa + 1, none⟩ = some (.int .i64 va) ∧ xw2.cell? ⟨vb, pa + 2, none⟩ = some (.int .i64 ma) ∧ xw2.cell? ⟨vb, pa + 3, none⟩ = some (.int .i64 a0) ∧ xw2.cell? ⟨vb, pa + 4, none⟩ = some (.int .i64 a1) ∧ xw2.cell? ⟨vb, pa + 5, none⟩ = some (.int .i64 a2) ∧ xw2.cell? ⟨vb, pb, none⟩ = some (.string sb) ∧ xw2.cell? ⟨vb, pb + 1, none⟩ = some (.int .i64 vo) ∧ xw2.cell? ⟨vb, pb + 2, none⟩ = some (.int .i64 mo) ∧ xw2.cell? ⟨vb, pb + 3, none⟩ = some (.int .i64 b0) ∧ xw2.cell? ⟨vb, pb + 4, none⟩ = some (.int .i64 b1) ∧ xw2.cell? ⟨vb, pb + 5, none⟩ = some (.int .i64 b2) ∧ xw2.cell? ⟨rb, 7, none⟩ = some (.int .i64 day) := by refine ⟨?_, ?_, ?_, ?_, ?_, ?_, ?_, ?_, ?_, ?_, ?_, ?_, ?_, ?_, ?_, ?_, ?_, ?_, ?_, ?_, ?_⟩ <;> (rw [bc1 hbx2]; simp [go_sem, cP, *])
      obtain ⟨x2o0, x2n0, x2o1, x2n1, x2o2, x2n2⟩ : w.heap.size < xw2.heap.size ∧ xw2.heap.size ≠ w.heap.size ∧ vb < xw2.heap.size ∧ xw2.heap.size ≠ vb ∧ rb < xw2.heap.size ∧ xw2.heap.size ≠ rb := by refine ⟨?_, ?_, ?_, ?_, ?_, ?_⟩ <;> omega
      have hBx2 : Below w.heap.size w xw2 := belA
      clear hbx2 x1A0 x1A1 x1A2 x1A3 x1A4 x1A5 x1A6 x1A7 x1B0 x1B1 x1B2 x1B3 x1B4 x1B5 x1B6 x1B7 x1B8 x1B9 x1B10 x1B11 x1C0 x1o0 x1n0 x1o1 x1n1 x1o2 x1n2 hBx1
      go_wp2_with fail
      refine hK.out _ _ (by simp [go_sem, cP, *]) (fun hHeld => ?_)
      clear hK K
      try simp only [Act.put, sA, sB, sC]
      refine rdA 15 rfl (fun K hK => ?_)
      go_simp
      refine (compare_any P vo mo 1 c _ (by omega) (by omega) (by omega) (by omega) (by omega) (by omega) (by omega) (by omega) hc).mono ?_
      rintro e xw3 ⟨rfl, hbx3⟩
      have zx3 := hbx3.size
      try simp at zx3
      obtain ⟨x3A0, x3A1, x3A2, x3A3, x3A4, x3A5, x3A6, x3A7, x3B0, x3B1, x3B2, x3B3, x3B4, x3B5, x3B6, x3B7, x3B8, x3B9, x3B10, x3B11, x3C0⟩ : xw3.cell? ⟨w.heap.size, 0, none⟩ = some (.int .i64 1) ∧ xw3.cell? ⟨w.heap.size, 1, none⟩ = some (.int .i64 d) ∧ xw3.cell? ⟨w.heap.size, 2, none⟩ = some (.string fr) ∧ xw3.cell? ⟨w.heap.size, 3, none⟩ = some (.string tz) ∧ xw3.cell? ⟨w.heap.size, 4, none⟩ = some (.int .i64 o) ∧ xw3.cell? ⟨w.heap.size, 5, none⟩ = some (.int .i64 h) ∧ xw3.cell? ⟨w.heap.size, 6, none⟩ = some (.int .i64 am) ∧ xw3.cell? ⟨w.heap.size, 7, none⟩ = some (.bool false) ∧ xw3.cell? ⟨vb, pa, none⟩ = some (.string sa) ∧ xw3.cell? ⟨vb, pa + 1, none⟩ = some (.int .i64 va) ∧ xw3.cell? ⟨vb, pa + 2, none⟩ = some (.int .i64 ma) ∧ xw3.cell? ⟨vb, pa + 3, none⟩ = some (.int .i64 a0) ∧ xw3.cell? ⟨vb, pa + 4, none⟩ = some (.int .i64 a1) ∧ xw3.cell? ⟨vb, pa + 5, none⟩ = some (.int .i64 a2) ∧ xw3.cell? ⟨vb, pb, none⟩ = some (.string sb) ∧ xw3.cell? ⟨vb, pb + 1, none⟩ = some (.int .i64 vo) ∧ xw3.cell? ⟨vb, pb + 2, none⟩ = some (.int .i64 mo) ∧ xw3.cell? ⟨vb, pb + 3, none⟩ = some (.int .i64 b0) ∧ xw3.cell? ⟨vb, pb + 4, none⟩ = some (.int .i64 b1) ∧ xw3.cell? ⟨vb, pb + 5, none⟩ = some (.int .i64 b2) ∧ xw3.cell? ⟨rb, 7, none⟩ = some (.int .i64 day) := by refine ⟨?_, ?_, ?_, ?_, ?_, ?_, ?_, ?_, ?_, ?_, ?_, ?_, ?_, ?_, ?_, ?_, ?_, ?_, ?_, ?_, ?_⟩ <;> (rw [bc1 hbx3]; simp [go_sem, cP, *])
      obtain ⟨x3o0, x3n0, x3o1, x3n1, x3o2, x3n2⟩ : w.heap.size < xw3.heap.size ∧ xw3.heap.size ≠ w.heap.size ∧ vb < xw3.heap.size ∧ xw3.heap.size ≠ vb ∧ rb < xw3.heap.size ∧ xw3.heap.size ≠ rb := by refine ⟨?_, ?_, ?_, ?_, ?_, ?_⟩ <;> omega
      have hBx3 : Below w.heap.size w xw3 := belA
      clear hbx3 x2A0 x2A1 x2A2 x2A3 x2A4 x2A5 x2A6 x2A7 x2B0 x2B1 x2B2 x2B3 x2B4 x2B5 x2B6 x2B7 x2B8 x2B9 x2B10 x2B11 x2C0 x2o0 x2n0 x2o1 x2n1 x2o2 x2n2 hBx2
      go_wp2_with fail
      refine hK.out _ _ (by simp [go_sem, cP, *]) (fun hHeld => ?_)
      clear hK K
      try simp only [Act.put, sA, sB, sC]
      refine tkA 16 62 rfl ?_
      refine tkA 17 63 rfl ?_
      refine tkA 18 45 rfl ?_
      refine wpAnyH_done (by kernel_rfl) ?_ _
      by_cases hf : 0 < c
      · have hr : Hid ((16 : Int) = E) := Lib.hid (by rw [← hE.out]; unfold pos1; rw [if_neg (by omega), if_neg (by omega), if_pos (hcs.out.1 hf)])
        go_wp2
        go_ret
        exact ⟨ret_int hr.out, belA⟩
      · skip
        have hsA : am ≤ SA := by omega
        have wn : IntKind.i64.wrap (-am) = -am := IntWalk.i64_in _ (by omega)
        obtain ⟨Q, hQ⟩ : ∃ Q, Hid (1000 * (SA + -am) = Q) := ⟨_, Lib.hid rfl⟩
        obtain ⟨qQ0, qQ1⟩ : 0 ≤ Q ∧ Q ≤ 4000000000000000000 := by have := hQ.out; omega
        obtain ⟨g, hg⟩ : ∃ g, Hid (ratI Q va P vo = g) := ⟨_, Lib.hid rfl⟩
        have hgs : Hid (g < 0 ↔ 1000 * (SA - am) * vo < 1000 * (SB + am) * va) := Lib.hid (by have := (ratI_sgn (n := Q) (d := va) (m := P) (e := vo) (by omega) (by omega) (by omega) (by omega)).2; rw [hg.out, ← hP.out, ← hQ.out] at this; exact this)
        go_upto_region 10 with (fail)
        refine wp_region_held_drew (S := (fun w' => w'.cell? ⟨w.heap.size, 0, none⟩ = some (.int .i64 1) ∧ w'.cell? ⟨w.heap.size, 1, none⟩ = some (.int .i64 d) ∧ w'.cell? ⟨w.heap.size, 2, none⟩ = some (.string fr) ∧ w'.cell? ⟨w.heap.size, 3, none⟩ = some (.string tz) ∧ w'.cell? ⟨w.heap.size, 4, none⟩ = some (.int .i64 o) ∧ w'.cell? ⟨w.heap.size, 5, none⟩ = some (.int .i64 h) ∧ w'.cell? ⟨w.heap.size, 6, none⟩ = some (.int .i64 am) ∧ w'.cell? ⟨w.heap.size, 7, none⟩ = some (.bool false) ∧ w'.cell? ⟨vb, pa, none⟩ = some (.string sa) ∧ w'.cell? ⟨vb, pa + 1, none⟩ = some (.int .i64 va) ∧ w'.cell? ⟨vb, pa + 2, none⟩ = some (.int .i64 ma) ∧ w'.cell? ⟨vb, pa + 3, none⟩ = some (.int .i64 a0) ∧ w'.cell? ⟨vb, pa + 4, none⟩ = some (.int .i64 a1) ∧ w'.cell? ⟨vb, pa + 5, none⟩ = some (.int .i64 a2) ∧ w'.cell? ⟨vb, pb, none⟩ = some (.string sb) ∧ w'.cell? ⟨vb, pb + 1, none⟩ = some (.int .i64 vo) ∧ w'.cell? ⟨vb, pb + 2, none⟩ = some (.int .i64 mo) ∧ w'.cell? ⟨vb, pb + 3, none⟩ = some (.int .i64 b0) ∧ w'.cell? ⟨vb, pb + 4, none⟩ = some (.int .i64 b1) ∧ w'.cell? ⟨vb, pb + 5, none⟩ = some (.int .i64 b2) ∧ w'.cell? ⟨rb, 7, none⟩ = some (.int .i64 day))) (by kernel_rfl) (by simp [go_sem, cP, *]) (fun hHeld => ?_)
        refine tkA 0 65 rfl ?_
        refine tkA 1 66 rfl ?_
        refine tkA 2 67 rfl ?_
        refine tkA 3 68 rfl ?_
        refine tkA 4 69 rfl ?_
        refine tkA 5 70 rfl ?_
        refine tkA 6 71 rfl ?_
        refine tkA 7 72 rfl ?_
        refine tkA 8 73 rfl ?_
        refine tkA 9 74 rfl ?_
        refine tkA 10 75 rfl ?_
        refine tkA 11 76 rfl ?_
        refine tkA 12 77 rfl ?_
        refine tkA 13 78 rfl ?_
        refine tkA 14 79 rfl ?_
        refine tkA 16 81 rfl ?_
        refine tkA 17 82 rfl ?_
        refine tkA 18 83 rfl ?_
        refine tkA 19 84 rfl ?_
        refine tkA 20 85 rfl ?_
        refine rdA 15 rfl (fun K hK => ?_)
        go_simp
        refine (pressureWith_any sa va ma a0 a1 a2 (-am) SA Q _ hcA hSA (by omega) (by omega) (by omega) (by omega) hQ).mono ?_
        rintro e xw4 ⟨rfl, hbx4⟩
        have zx4 := hbx4.size
        try simp at zx4
        obtain ⟨x4A0, x4A1, x4A2, x4A3, x4A4, x4A5, x4A6, x4A7, x4B0, x4B1, x4B2, x4B3, x4B4, x4B5, x4B6, x4B7, x4B8, x4B9, x4B10, x4B11, x4C0⟩ : xw4.cell? ⟨w.heap.size, 0, none⟩ = some (.int .i64 1) ∧ xw4.cell? ⟨w.heap.size, 1, none⟩ = some (.int .i64 d) ∧ xw4.cell? ⟨w.heap.size, 2, none⟩ = some (.string fr) ∧ xw4.cell? ⟨w.heap.size, 3, none⟩ = some (.string tz) ∧ xw4.cell? ⟨w.heap.size, 4, none⟩ = some (.int .i64 o) ∧ xw4.cell? ⟨w.heap.size, 5, none⟩ = some (.int .i64 h) ∧ xw4.cell? ⟨w.heap.size, 6, none⟩ = some (.int .i64 am) ∧ xw4.cell? ⟨w.heap.size, 7, none⟩ = some (.bool false) ∧ xw4.cell? ⟨vb, pa, none⟩ = some (.string sa) ∧ xw4.cell? ⟨vb, pa + 1, none⟩ = some (.int .i64 va) ∧ xw4.cell? ⟨vb, pa + 2, none⟩ = some (.int .i64 ma) ∧ xw4.cell? ⟨vb, pa + 3, none⟩ = some (.int .i64 a0) ∧ xw4.cell? ⟨vb, pa + 4, none⟩ = some (.int .i64 a1) ∧ xw4.cell? ⟨vb, pa + 5, none⟩ = some (.int .i64 a2) ∧ xw4.cell? ⟨vb, pb, none⟩ = some (.string sb) ∧ xw4.cell? ⟨vb, pb + 1, none⟩ = some (.int .i64 vo) ∧ xw4.cell? ⟨vb, pb + 2, none⟩ = some (.int .i64 mo) ∧ xw4.cell? ⟨vb, pb + 3, none⟩ = some (.int .i64 b0) ∧ xw4.cell? ⟨vb, pb + 4, none⟩ = some (.int .i64 b1) ∧ xw4.cell? ⟨vb, pb + 5, none⟩ = some (.int .i64 b2) ∧ xw4.cell? ⟨rb, 7, none⟩ = some (.int .i64 day) := by refine ⟨?_, ?_, ?_, ?_, ?_, ?_, ?_, ?_, ?_, ?_, ?_, ?_, ?_, ?_, ?_, ?_, ?_, ?_, ?_, ?_, ?_⟩ <;> (rw [bc1 hbx4]; simp [go_sem, cP, *])
        obtain ⟨x4o0, x4n0, x4o1, x4n1, x4o2, x4n2⟩ : w.heap.size < xw4.heap.size ∧ xw4.heap.size ≠ w.heap.size ∧ vb < xw4.heap.size ∧ xw4.heap.size ≠ vb ∧ rb < xw4.heap.size ∧ xw4.heap.size ≠ rb := by refine ⟨?_, ?_, ?_, ?_, ?_, ?_⟩ <;> omega
        have hBx4 : Below w.heap.size w xw4 := belA
        clear hbx4 x3A0 x3A1 x3A2 x3A3 x3A4 x3A5 x3A6 x3A7 x3B0 x3B1 x3B2 x3B3 x3B4 x3B5 x3B6 x3B7 x3B8 x3B9 x3B10 x3B11 x3C0 x3o0 x3n0 x3o1 x3n1 x3o2 x3n2 hBx3
        go_wp2_with fail
        refine hK.out _ _ (by simp [go_sem, cP, *]) (fun hHeld => ?_)
        clear hK K
        try simp only [Act.put, sA, sB, sC]
        refine rdA 21 rfl (fun K hK => ?_)
        go_simp
        refine (pressureWith_any sb vo mo b0 b1 b2 am SB P _ hcB hSB (by omega) (by omega) (by omega) (by omega) hP).mono ?_
        rintro e xw5 ⟨rfl, hbx5⟩
        have zx5 := hbx5.size
        try simp at zx5
        obtain ⟨x5A0, x5A1, x5A2, x5A3, x5A4, x5A5, x5A6, x5A7, x5B0, x5B1, x5B2, x5B3, x5B4, x5B5, x5B6, x5B7, x5B8, x5B9, x5B10, x5B11, x5C0⟩ : xw5.cell? ⟨w.heap.size, 0, none⟩ = some (.int .i64 1) ∧ xw5.cell? ⟨w.heap.size, 1, none⟩ = some (.int .i64 d) ∧ xw5.cell? ⟨w.heap.size, 2, none⟩ = some (.string fr) ∧ xw5.cell? ⟨w.heap.size, 3, none⟩ = some (.string tz) ∧ xw5.cell? ⟨w.heap.size, 4, none⟩ = some (.int .i64 o) ∧ xw5.cell? ⟨w.heap.size, 5, none⟩ = some (.int .i64 h) ∧ xw5.cell? ⟨w.heap.size, 6, none⟩ = some (.int .i64 am) ∧ xw5.cell? ⟨w.heap.size, 7, none⟩ = some (.bool false) ∧ xw5.cell? ⟨vb, pa, none⟩ = some (.string sa) ∧ xw5.cell? ⟨vb, pa + 1, none⟩ = some (.int .i64 va) ∧ xw5.cell? ⟨vb, pa + 2, none⟩ = some (.int .i64 ma) ∧ xw5.cell? ⟨vb, pa + 3, none⟩ = some (.int .i64 a0) ∧ xw5.cell? ⟨vb, pa + 4, none⟩ = some (.int .i64 a1) ∧ xw5.cell? ⟨vb, pa + 5, none⟩ = some (.int .i64 a2) ∧ xw5.cell? ⟨vb, pb, none⟩ = some (.string sb) ∧ xw5.cell? ⟨vb, pb + 1, none⟩ = some (.int .i64 vo) ∧ xw5.cell? ⟨vb, pb + 2, none⟩ = some (.int .i64 mo) ∧ xw5.cell? ⟨vb, pb + 3, none⟩ = some (.int .i64 b0) ∧ xw5.cell? ⟨vb, pb + 4, none⟩ = some (.int .i64 b1) ∧ xw5.cell? ⟨vb, pb + 5, none⟩ = some (.int .i64 b2) ∧ xw5.cell? ⟨rb, 7, none⟩ = some (.int .i64 day) := by refine ⟨?_, ?_, ?_, ?_, ?_, ?_, ?_, ?_, ?_, ?_, ?_, ?_, ?_, ?_, ?_, ?_, ?_, ?_, ?_, ?_, ?_⟩ <;> (rw [bc1 hbx5]; simp [go_sem, cP, *])
        obtain ⟨x5o0, x5n0, x5o1, x5n1, x5o2, x5n2⟩ : w.heap.size < xw5.heap.size ∧ xw5.heap.size ≠ w.heap.size ∧ vb < xw5.heap.size ∧ xw5.heap.size ≠ vb ∧ rb < xw5.heap.size ∧ xw5.heap.size ≠ rb := by refine ⟨?_, ?_, ?_, ?_, ?_, ?_⟩ <;> omega
        have hBx5 : Below w.heap.size w xw5 := belA
        clear hbx5 x4A0 x4A1 x4A2 x4A3 x4A4 x4A5 x4A6 x4A7 x4B0 x4B1 x4B2 x4B3 x4B4 x4B5 x4B6 x4B7 x4B8 x4B9 x4B10 x4B11 x4C0 x4o0 x4n0 x4o1 x4n1 x4o2 x4n2 hBx4
        go_wp2_with fail
        refine hK.out _ _ (by simp [go_sem, cP, *]) (fun hHeld => ?_)
        clear hK K
        try simp only [Act.put, sA, sB, sC]
        refine rdA 22 rfl (fun K hK => ?_)
        go_simp
        refine (compare_any Q va P vo g _ (by omega) (by omega) (by omega) (by omega) (by omega) (by omega) (by omega) (by omega) hg).mono ?_
        rintro e xw6 ⟨rfl, hbx6⟩
        have zx6 := hbx6.size
        try simp at zx6
        obtain ⟨x6A0, x6A1, x6A2, x6A3, x6A4, x6A5, x6A6, x6A7, x6B0, x6B1, x6B2, x6B3, x6B4, x6B5, x6B6, x6B7, x6B8, x6B9, x6B10, x6B11, x6C0⟩ : xw6.cell? ⟨w.heap.size, 0, none⟩ = some (.int .i64 1) ∧ xw6.cell? ⟨w.heap.size, 1, none⟩ = some (.int .i64 d) ∧ xw6.cell? ⟨w.heap.size, 2, none⟩ = some (.string fr) ∧ xw6.cell? ⟨w.heap.size, 3, none⟩ = some (.string tz) ∧ xw6.cell? ⟨w.heap.size, 4, none⟩ = some (.int .i64 o) ∧ xw6.cell? ⟨w.heap.size, 5, none⟩ = some (.int .i64 h) ∧ xw6.cell? ⟨w.heap.size, 6, none⟩ = some (.int .i64 am) ∧ xw6.cell? ⟨w.heap.size, 7, none⟩ = some (.bool false) ∧ xw6.cell? ⟨vb, pa, none⟩ = some (.string sa) ∧ xw6.cell? ⟨vb, pa + 1, none⟩ = some (.int .i64 va) ∧ xw6.cell? ⟨vb, pa + 2, none⟩ = some (.int .i64 ma) ∧ xw6.cell? ⟨vb, pa + 3, none⟩ = some (.int .i64 a0) ∧ xw6.cell? ⟨vb, pa + 4, none⟩ = some (.int .i64 a1) ∧ xw6.cell? ⟨vb, pa + 5, none⟩ = some (.int .i64 a2) ∧ xw6.cell? ⟨vb, pb, none⟩ = some (.string sb) ∧ xw6.cell? ⟨vb, pb + 1, none⟩ = some (.int .i64 vo) ∧ xw6.cell? ⟨vb, pb + 2, none⟩ = some (.int .i64 mo) ∧ xw6.cell? ⟨vb, pb + 3, none⟩ = some (.int .i64 b0) ∧ xw6.cell? ⟨vb, pb + 4, none⟩ = some (.int .i64 b1) ∧ xw6.cell? ⟨vb, pb + 5, none⟩ = some (.int .i64 b2) ∧ xw6.cell? ⟨rb, 7, none⟩ = some (.int .i64 day) := by refine ⟨?_, ?_, ?_, ?_, ?_, ?_, ?_, ?_, ?_, ?_, ?_, ?_, ?_, ?_, ?_, ?_, ?_, ?_, ?_, ?_, ?_⟩ <;> (rw [bc1 hbx6]; simp [go_sem, cP, *])
        obtain ⟨x6o0, x6n0, x6o1, x6n1, x6o2, x6n2⟩ : w.heap.size < xw6.heap.size ∧ xw6.heap.size ≠ w.heap.size ∧ vb < xw6.heap.size ∧ xw6.heap.size ≠ vb ∧ rb < xw6.heap.size ∧ xw6.heap.size ≠ rb := by refine ⟨?_, ?_, ?_, ?_, ?_, ?_⟩ <;> omega
        have hBx6 : Below w.heap.size w xw6 := belA
        clear hbx6 x5A0 x5A1 x5A2 x5A3 x5A4 x5A5 x5A6 x5A7 x5B0 x5B1 x5B2 x5B3 x5B4 x5B5 x5B6 x5B7 x5B8 x5B9 x5B10 x5B11 x5C0 x5o0 x5n0 x5o1 x5n1 x5o2 x5n2 hBx5
        go_wp2_with fail
        refine hK.out _ _ (by simp [go_sem, cP, *]) (fun hHeld => ?_)
        clear hK K
        try simp only [Act.put, sA, sB, sC]
        refine tkA 23 88 rfl ?_
        refine tkA 24 89 rfl ?_
        refine tkA 25 64 rfl ?_
        refine wpAnyH_done (by kernel_rfl) ?_ _
        by_cases hz : g < 0
        · have hr : Hid ((24 : Int) = E) := Lib.hid (by rw [← hE.out]; unfold pos1; rw [if_neg (by omega), if_neg (by omega), if_neg (fun hx => by have := hcs.out.2 hx; omega), if_pos ⟨rfl, hgs.out.1 hz⟩])
          go_wp2
          go_ret
          exact ⟨ret_int hr.out, belA⟩
        · have hr : Hid ((0 : Int) = E) := Lib.hid (by rw [← hE.out]; unfold pos1; rw [if_neg (by omega), if_neg (by omega), if_neg (fun hx => by have := hcs.out.2 hx; omega), if_neg (fun hx => hz (hgs.out.2 hx.2))])
          go_wp2
          go_ret
          exact ⟨ret_int hr.out, belA⟩
end Go.Proofs.Ytjkhjjmmkdfjmaa
