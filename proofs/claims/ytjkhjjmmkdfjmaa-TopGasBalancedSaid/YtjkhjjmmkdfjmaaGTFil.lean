import Derived.Test.YtjkhjjmmkdfjmaaGTVes2
import Derived.Outline
namespace Go.Proofs.Ytjkhjjmmkdfjmaa
open Go.ChangeShapes Go.WideShapes Go.ChangeAt Go.RowKit
set_option linter.unusedVariables false
set_option linter.unusedSimpArgs false
attribute [local go_sem ↓] Go.wp_at_zero Go.wp_at_succ
/-- The error of a fill alone. -/
def alnE (k d : Int) (fr tz : ByteArray) (o h am : Int) (pu : Bool) : Int :=
  if k = 0 ∨ k = 1 ∨ k = 2 then
    if inB d 0 100000 = true ∧ inB am 1 1000000000 = true then
      if gasE o h = 0 ∧ (k = 0 ∨ o = 0 ∧ h = 0) then
        if (k = 0 ∧ fr.size ≠ 0) ∨ (k = 2 ∧ tz.size ≠ 0) ∨ (k = 1 ∧ fr.data = tz.data) ∨ (pu = true ∧ k ≠ 1) then 3 else 0
      else 2
    else 2
  else 15
theorem emp_of {s : ByteArray} (h : s.size = 0) : s = ⟨#[]⟩ := by
  obtain ⟨a⟩ := s
  have : a = #[] := Array.eq_empty_of_size_eq_zero h
  rw [this]
theorem nemp {s : ByteArray} (h : s.size ≠ 0) : (s.toList == []) = false ∧ ¬ s = ⟨#[]⟩ ∧ s.toList ≠ [] ∧ s.toList.isEmpty = false := by
  have h1 : s.toList ≠ [] := by
    rw [Lib.toList_data]
    intro e
    apply h
    have : s.data.toList.length = 0 := by rw [e]; rfl
    simpa using this
  refine ⟨by simpa using h1, fun e => h (by rw [e]; rfl), h1, by simpa using h1⟩
theorem fir2 {x y : Int} (hx : x = 0 ∨ x = 2) (hy : y = 0 ∨ y = 2) : (x = 0 ∧ y = 0 → firE [x, y] = 0) ∧ (¬ (x = 0 ∧ y = 0) → firE [x, y] = 2) := by
  rcases hx with rfl | rfl <;> rcases hy with rfl | rfl <;> simp [firE]
theorem CheckGas_y (o h r : Int) (w : World) (hr : Hid (gasE o h = r)) : Calls Try.prog 76 #[.agg #[.int .i64 o, .int .i64 h]] w fun e w' => e = .returned (.int .i64 r) ∧ Below w.heap.size w w' := by
  rw [← hr.out]
  exact (CheckGas_any o h w).mono fun e w' ⟨he, hw⟩ => ⟨he, by rw [← hw]; exact (Below.refl _ _).alloc (Nat.le_refl _) _⟩
theorem refCheckGas_y (o h r : Int) (w : World) (hr : Hid (gasE o h = r)) : Calls Try.prog 79 #[.agg #[.int .i64 o, .int .i64 h]] w fun e w' => e = .returned (.int .i64 r) ∧ Below w.heap.size w w' := by
  rw [← hr.out]
  exact (refCheckGas_any o h w).mono fun e w' ⟨he, hw⟩ => ⟨he, by rw [← hw]; exact (Below.refl _ _).alloc (Nat.le_refl _) _⟩
theorem ez2b (g : Int) : (Hid (g = 0) ∧ (g != 0) = false) ∨ (Hid (¬ g = 0) ∧ (g != 0) = true) := by
  by_cases h : g = 0
  · exact Or.inl ⟨Lib.hid h, by simp [h]⟩
  · exact Or.inr ⟨Lib.hid h, by simpa using h⟩
set_option maxHeartbeats 1000000 in
set_option maxRecDepth 100000 in
theorem alp_kind (k : Int) (d o h am : Int) (fr tz : ByteArray) (pu : Bool) (w : World) (k0 : ¬ k = 0) (k1 : ¬ k = 1) (k2 : ¬ k = 2) : Calls Try.prog 95 #[.agg #[.int .i64 k, .int .i64 d, .string fr, .string tz, .int .i64 o, .int .i64 h, .int .i64 am, .bool pu]] w fun e w' => e = .returned (.int .i64 15) ∧ Below w.heap.size w w' := by
  have k0b : (k == 0) = false := by simpa using k0
  have k1b : (k == 1) = false := by simpa using k1
  have k2b : (k == 2) = false := by simpa using k2
  go_enter Try.func95, Try.ntmps95
  go_upto_region 1 with (fail)
  refine wp_region_held_drew (S := (fun w' => w'.cell? ⟨w.heap.size, 0, none⟩ = some (.int .i64 k) ∧ w'.cell? ⟨w.heap.size, 1, none⟩ = some (.int .i64 d) ∧ w'.cell? ⟨w.heap.size, 2, none⟩ = some (.string fr) ∧ w'.cell? ⟨w.heap.size, 3, none⟩ = some (.string tz) ∧ w'.cell? ⟨w.heap.size, 4, none⟩ = some (.int .i64 o) ∧ w'.cell? ⟨w.heap.size, 5, none⟩ = some (.int .i64 h) ∧ w'.cell? ⟨w.heap.size, 6, none⟩ = some (.int .i64 am) ∧ w'.cell? ⟨w.heap.size, 7, none⟩ = some (.bool pu))) (by kernel_rfl) (by simp [go_sem, cP, *]) (fun hHeld => ?_)
  refine tkA 0 7 rfl ?_
  refine tkA 1 8 rfl ?_
  refine tkA 2 9 rfl ?_
  refine tkA 3 10 rfl ?_
  refine tkA 4 11 rfl ?_
  refine tkA 5 12 rfl ?_
  refine tkA 6 13 rfl ?_
  refine tkA 7 14 rfl ?_
  refine tkA 8 15 rfl ?_
  refine tkA 9 3 rfl ?_
  refine tkA 10 4 rfl ?_
  refine tkA 11 5 rfl ?_
  refine wpAnyH_done (by kernel_rfl) ?_ _
  go_wp2
  go_ret
  exact ⟨rfl, belA⟩
set_option maxHeartbeats 1000000 in
set_option maxRecDepth 100000 in
theorem alp_0R1 (d o h am : Int) (fr tz : ByteArray) (pu : Bool) (w : World) (hF : Hid (firE [rngE d 0 100000, rngE am 1 1000000000] = 2)) (hd : Hid (inB d 0 100000 = false)) : Calls Try.prog 95 #[.agg #[.int .i64 0, .int .i64 d, .string fr, .string tz, .int .i64 o, .int .i64 h, .int .i64 am, .bool pu]] w fun e w' => e = .returned (.int .i64 2) ∧ Below w.heap.size w w' := by
  have hd' := hd.out
  go_enter Try.func95, Try.ntmps95
  go_upto_region 1 with (fail)
  refine wp_region_held_drew (S := (fun w' => w'.cell? ⟨w.heap.size, 0, none⟩ = some (.int .i64 0) ∧ w'.cell? ⟨w.heap.size, 1, none⟩ = some (.int .i64 d) ∧ w'.cell? ⟨w.heap.size, 2, none⟩ = some (.string fr) ∧ w'.cell? ⟨w.heap.size, 3, none⟩ = some (.string tz) ∧ w'.cell? ⟨w.heap.size, 4, none⟩ = some (.int .i64 o) ∧ w'.cell? ⟨w.heap.size, 5, none⟩ = some (.int .i64 h) ∧ w'.cell? ⟨w.heap.size, 6, none⟩ = some (.int .i64 am) ∧ w'.cell? ⟨w.heap.size, 7, none⟩ = some (.bool pu))) (by kernel_rfl) (by simp [go_sem, cP, *]) (fun hHeld => ?_)
  refine tkA 0 7 rfl ?_
  refine tkA 1 8 rfl ?_
  refine tkA 2 9 rfl ?_
  refine tkA 3 10 rfl ?_
  refine tkA 4 11 rfl ?_
  refine tkA 5 12 rfl ?_
  refine tkA 6 13 rfl ?_
  refine tkA 7 14 rfl ?_
  refine tkA 8 15 rfl ?_
  refine tkA 9 3 rfl ?_
  refine tkA 10 4 rfl ?_
  refine tkA 11 5 rfl ?_
  refine wpAnyH_done (by kernel_rfl) ?_ _
  go_upto_region 4 with (fail)
  refine wp_region_held_drew (S := (fun w' => w'.cell? ⟨w.heap.size, 0, none⟩ = some (.int .i64 0) ∧ w'.cell? ⟨w.heap.size, 1, none⟩ = some (.int .i64 d) ∧ w'.cell? ⟨w.heap.size, 2, none⟩ = some (.string fr) ∧ w'.cell? ⟨w.heap.size, 3, none⟩ = some (.string tz) ∧ w'.cell? ⟨w.heap.size, 4, none⟩ = some (.int .i64 o) ∧ w'.cell? ⟨w.heap.size, 5, none⟩ = some (.int .i64 h) ∧ w'.cell? ⟨w.heap.size, 6, none⟩ = some (.int .i64 am) ∧ w'.cell? ⟨w.heap.size, 7, none⟩ = some (.bool pu))) (by kernel_rfl) (by simp [go_sem, cP, *]) (fun hHeld => ?_)
  refine tkA 0 26 rfl ?_
  refine tkA 1 27 rfl ?_
  refine tkA 3 29 rfl ?_
  refine tkA 4 30 rfl ?_
  refine rdA 2 rfl (fun K hK => ?_)
  go_simp
  refine (cRange_any _ _ _ _).mono ?_
  rintro e wq ⟨rfl, rfl⟩
  go_wp2_with fail
  refine hK.out _ _ (by simp [go_sem, cP, *]) (fun hHeld => ?_)
  clear hK K
  try simp only [Act.put, sA, sB, sC]
  refine rdA 5 rfl (fun K hK => ?_)
  go_simp
  refine (cRange_any _ _ _ _).mono ?_
  rintro e wq ⟨rfl, rfl⟩
  go_wp2_with fail
  refine hK.out _ _ (by simp [go_sem, cP, *]) (fun hHeld => ?_)
  clear hK K
  try simp only [Act.put, sA, sB, sC]
  refine rdA 6 rfl (fun K hK => ?_)
  go_simp
  go_wp2_with fail
  refine hK.out _ _ (by simp [go_sem, cP, *]) (fun hHeld => ?_)
  clear hK K
  try simp only [Act.put, sA, sB, sC]
  refine rdA 7 rfl (fun K hK => ?_)
  go_simp
  refine (cF2y (rngE d 0 100000) (rngE am 1 1000000000) 2 _ _ hF (by simp [go_sem]) (by simp [go_sem])).mono ?_
  rintro e wq ⟨rfl, rfl⟩
  go_wp2_with fail
  refine hK.out _ _ (by simp [go_sem, cP, *]) (fun hHeld => ?_)
  clear hK K
  try simp only [Act.put, sA, sB, sC]
  refine tkA 8 6 rfl ?_
  refine wpAnyH_done (by kernel_rfl) ?_ _
  go_wp2
  go_ret
  exact ⟨rfl, belA⟩
set_option maxHeartbeats 1000000 in
set_option maxRecDepth 100000 in
theorem alp_0R2 (d o h am : Int) (fr tz : ByteArray) (pu : Bool) (w : World) (hF : Hid (firE [rngE d 0 100000, rngE am 1 1000000000] = 2)) (hd : Hid (inB d 0 100000 = true)) (ha : Hid (inB am 1 1000000000 = false)) : Calls Try.prog 95 #[.agg #[.int .i64 0, .int .i64 d, .string fr, .string tz, .int .i64 o, .int .i64 h, .int .i64 am, .bool pu]] w fun e w' => e = .returned (.int .i64 2) ∧ Below w.heap.size w w' := by
  have hd' := hd.out
  have ha' := ha.out
  go_enter Try.func95, Try.ntmps95
  go_upto_region 1 with (fail)
  refine wp_region_held_drew (S := (fun w' => w'.cell? ⟨w.heap.size, 0, none⟩ = some (.int .i64 0) ∧ w'.cell? ⟨w.heap.size, 1, none⟩ = some (.int .i64 d) ∧ w'.cell? ⟨w.heap.size, 2, none⟩ = some (.string fr) ∧ w'.cell? ⟨w.heap.size, 3, none⟩ = some (.string tz) ∧ w'.cell? ⟨w.heap.size, 4, none⟩ = some (.int .i64 o) ∧ w'.cell? ⟨w.heap.size, 5, none⟩ = some (.int .i64 h) ∧ w'.cell? ⟨w.heap.size, 6, none⟩ = some (.int .i64 am) ∧ w'.cell? ⟨w.heap.size, 7, none⟩ = some (.bool pu))) (by kernel_rfl) (by simp [go_sem, cP, *]) (fun hHeld => ?_)
  refine tkA 0 7 rfl ?_
  refine tkA 1 8 rfl ?_
  refine tkA 2 9 rfl ?_
  refine tkA 3 10 rfl ?_
  refine tkA 4 11 rfl ?_
  refine tkA 5 12 rfl ?_
  refine tkA 6 13 rfl ?_
  refine tkA 7 14 rfl ?_
  refine tkA 8 15 rfl ?_
  refine tkA 9 3 rfl ?_
  refine tkA 10 4 rfl ?_
  refine tkA 11 5 rfl ?_
  refine wpAnyH_done (by kernel_rfl) ?_ _
  go_upto_region 4 with (fail)
  refine wp_region_held_drew (S := (fun w' => w'.cell? ⟨w.heap.size, 0, none⟩ = some (.int .i64 0) ∧ w'.cell? ⟨w.heap.size, 1, none⟩ = some (.int .i64 d) ∧ w'.cell? ⟨w.heap.size, 2, none⟩ = some (.string fr) ∧ w'.cell? ⟨w.heap.size, 3, none⟩ = some (.string tz) ∧ w'.cell? ⟨w.heap.size, 4, none⟩ = some (.int .i64 o) ∧ w'.cell? ⟨w.heap.size, 5, none⟩ = some (.int .i64 h) ∧ w'.cell? ⟨w.heap.size, 6, none⟩ = some (.int .i64 am) ∧ w'.cell? ⟨w.heap.size, 7, none⟩ = some (.bool pu))) (by kernel_rfl) (by simp [go_sem, cP, *]) (fun hHeld => ?_)
  refine tkA 0 26 rfl ?_
  refine tkA 1 27 rfl ?_
  refine tkA 3 29 rfl ?_
  refine tkA 4 30 rfl ?_
  refine rdA 2 rfl (fun K hK => ?_)
  go_simp
  refine (cRange_any _ _ _ _).mono ?_
  rintro e wq ⟨rfl, rfl⟩
  go_wp2_with fail
  refine hK.out _ _ (by simp [go_sem, cP, *]) (fun hHeld => ?_)
  clear hK K
  try simp only [Act.put, sA, sB, sC]
  refine rdA 5 rfl (fun K hK => ?_)
  go_simp
  refine (cRange_any _ _ _ _).mono ?_
  rintro e wq ⟨rfl, rfl⟩
  go_wp2_with fail
  refine hK.out _ _ (by simp [go_sem, cP, *]) (fun hHeld => ?_)
  clear hK K
  try simp only [Act.put, sA, sB, sC]
  refine rdA 6 rfl (fun K hK => ?_)
  go_simp
  go_wp2_with fail
  refine hK.out _ _ (by simp [go_sem, cP, *]) (fun hHeld => ?_)
  clear hK K
  try simp only [Act.put, sA, sB, sC]
  refine rdA 7 rfl (fun K hK => ?_)
  go_simp
  refine (cF2y (rngE d 0 100000) (rngE am 1 1000000000) 2 _ _ hF (by simp [go_sem]) (by simp [go_sem])).mono ?_
  rintro e wq ⟨rfl, rfl⟩
  go_wp2_with fail
  refine hK.out _ _ (by simp [go_sem, cP, *]) (fun hHeld => ?_)
  clear hK K
  try simp only [Act.put, sA, sB, sC]
  refine tkA 8 6 rfl ?_
  refine wpAnyH_done (by kernel_rfl) ?_ _
  go_wp2
  go_ret
  exact ⟨rfl, belA⟩
set_option maxHeartbeats 1000000 in
set_option maxRecDepth 100000 in
theorem alp_0G (d o h am : Int) (fr tz : ByteArray) (pu : Bool) (w : World) (hF : Hid (firE [rngE d 0 100000, rngE am 1 1000000000] = 0)) (hd : Hid (inB d 0 100000 = true)) (ha : Hid (inB am 1 1000000000 = true)) (g : Int) (hG : Hid (gasE o h = g)) (hg : (g != 0) = true) : Calls Try.prog 95 #[.agg #[.int .i64 0, .int .i64 d, .string fr, .string tz, .int .i64 o, .int .i64 h, .int .i64 am, .bool pu]] w fun e w' => e = .returned (.int .i64 2) ∧ Below w.heap.size w w' := by
  have hd' := hd.out
  have ha' := ha.out
  go_enter Try.func95, Try.ntmps95
  go_upto_region 1 with (fail)
  refine wp_region_held_drew (S := (fun w' => w'.cell? ⟨w.heap.size, 0, none⟩ = some (.int .i64 0) ∧ w'.cell? ⟨w.heap.size, 1, none⟩ = some (.int .i64 d) ∧ w'.cell? ⟨w.heap.size, 2, none⟩ = some (.string fr) ∧ w'.cell? ⟨w.heap.size, 3, none⟩ = some (.string tz) ∧ w'.cell? ⟨w.heap.size, 4, none⟩ = some (.int .i64 o) ∧ w'.cell? ⟨w.heap.size, 5, none⟩ = some (.int .i64 h) ∧ w'.cell? ⟨w.heap.size, 6, none⟩ = some (.int .i64 am) ∧ w'.cell? ⟨w.heap.size, 7, none⟩ = some (.bool pu))) (by kernel_rfl) (by simp [go_sem, cP, *]) (fun hHeld => ?_)
  refine tkA 0 7 rfl ?_
  refine tkA 1 8 rfl ?_
  refine tkA 2 9 rfl ?_
  refine tkA 3 10 rfl ?_
  refine tkA 4 11 rfl ?_
  refine tkA 5 12 rfl ?_
  refine tkA 6 13 rfl ?_
  refine tkA 7 14 rfl ?_
  refine tkA 8 15 rfl ?_
  refine tkA 9 3 rfl ?_
  refine tkA 10 4 rfl ?_
  refine tkA 11 5 rfl ?_
  refine wpAnyH_done (by kernel_rfl) ?_ _
  go_upto_region 4 with (fail)
  refine wp_region_held_drew (S := (fun w' => w'.cell? ⟨w.heap.size, 0, none⟩ = some (.int .i64 0) ∧ w'.cell? ⟨w.heap.size, 1, none⟩ = some (.int .i64 d) ∧ w'.cell? ⟨w.heap.size, 2, none⟩ = some (.string fr) ∧ w'.cell? ⟨w.heap.size, 3, none⟩ = some (.string tz) ∧ w'.cell? ⟨w.heap.size, 4, none⟩ = some (.int .i64 o) ∧ w'.cell? ⟨w.heap.size, 5, none⟩ = some (.int .i64 h) ∧ w'.cell? ⟨w.heap.size, 6, none⟩ = some (.int .i64 am) ∧ w'.cell? ⟨w.heap.size, 7, none⟩ = some (.bool pu))) (by kernel_rfl) (by simp [go_sem, cP, *]) (fun hHeld => ?_)
  refine tkA 0 26 rfl ?_
  refine tkA 1 27 rfl ?_
  refine tkA 3 29 rfl ?_
  refine tkA 4 30 rfl ?_
  refine rdA 2 rfl (fun K hK => ?_)
  go_simp
  refine (cRange_any _ _ _ _).mono ?_
  rintro e wq ⟨rfl, rfl⟩
  go_wp2_with fail
  refine hK.out _ _ (by simp [go_sem, cP, *]) (fun hHeld => ?_)
  clear hK K
  try simp only [Act.put, sA, sB, sC]
  refine rdA 5 rfl (fun K hK => ?_)
  go_simp
  refine (cRange_any _ _ _ _).mono ?_
  rintro e wq ⟨rfl, rfl⟩
  go_wp2_with fail
  refine hK.out _ _ (by simp [go_sem, cP, *]) (fun hHeld => ?_)
  clear hK K
  try simp only [Act.put, sA, sB, sC]
  refine rdA 6 rfl (fun K hK => ?_)
  go_simp
  go_wp2_with fail
  refine hK.out _ _ (by simp [go_sem, cP, *]) (fun hHeld => ?_)
  clear hK K
  try simp only [Act.put, sA, sB, sC]
  refine rdA 7 rfl (fun K hK => ?_)
  go_simp
  refine (cF2y (rngE d 0 100000) (rngE am 1 1000000000) 0 _ _ hF (by simp [go_sem]) (by simp [go_sem])).mono ?_
  rintro e wq ⟨rfl, rfl⟩
  go_wp2_with fail
  refine hK.out _ _ (by simp [go_sem, cP, *]) (fun hHeld => ?_)
  clear hK K
  try simp only [Act.put, sA, sB, sC]
  refine tkA 8 6 rfl ?_
  refine wpAnyH_done (by kernel_rfl) ?_ _
  go_wp2_with fail
  refine (CheckGas_y o h g _ hG).mono ?_
  rintro e xw1 ⟨rfl, hbx1⟩
  have zx1 := hbx1.size
  try simp at zx1
  obtain ⟨x1A0, x1A1, x1A2, x1A3, x1A4, x1A5, x1A6, x1A7⟩ : xw1.cell? ⟨w.heap.size, 0, none⟩ = some (.int .i64 0) ∧ xw1.cell? ⟨w.heap.size, 1, none⟩ = some (.int .i64 d) ∧ xw1.cell? ⟨w.heap.size, 2, none⟩ = some (.string fr) ∧ xw1.cell? ⟨w.heap.size, 3, none⟩ = some (.string tz) ∧ xw1.cell? ⟨w.heap.size, 4, none⟩ = some (.int .i64 o) ∧ xw1.cell? ⟨w.heap.size, 5, none⟩ = some (.int .i64 h) ∧ xw1.cell? ⟨w.heap.size, 6, none⟩ = some (.int .i64 am) ∧ xw1.cell? ⟨w.heap.size, 7, none⟩ = some (.bool pu) := by refine ⟨?_, ?_, ?_, ?_, ?_, ?_, ?_, ?_⟩ <;> (rw [bc1 hbx1]; simp [go_sem, cP, *])
  obtain ⟨x1o0, x1n0⟩ : w.heap.size < xw1.heap.size ∧ xw1.heap.size ≠ w.heap.size := by refine ⟨?_, ?_⟩ <;> omega
  have hBx1 : Below w.heap.size w xw1 := belA
  clear hbx1 
  go_wp2
  go_ret
  exact ⟨rfl, belA⟩
set_option maxHeartbeats 1000000 in
set_option maxRecDepth 100000 in
theorem alp_0F1 (d o h am : Int) (fr tz : ByteArray) (pu : Bool) (w : World) (hF : Hid (firE [rngE d 0 100000, rngE am 1 1000000000] = 0)) (hd : Hid (inB d 0 100000 = true)) (ha : Hid (inB am 1 1000000000 = true)) (hG : Hid (gasE o h = 0)) (hs : fr.size ≠ 0) : Calls Try.prog 95 #[.agg #[.int .i64 0, .int .i64 d, .string fr, .string tz, .int .i64 o, .int .i64 h, .int .i64 am, .bool pu]] w fun e w' => e = .returned (.int .i64 3) ∧ Below w.heap.size w w' := by
  have hd' := hd.out
  have ha' := ha.out
  obtain ⟨e1, e2, e3, e4⟩ := nemp hs
  go_enter Try.func95, Try.ntmps95
  go_upto_region 1 with (fail)
  refine wp_region_held_drew (S := (fun w' => w'.cell? ⟨w.heap.size, 0, none⟩ = some (.int .i64 0) ∧ w'.cell? ⟨w.heap.size, 1, none⟩ = some (.int .i64 d) ∧ w'.cell? ⟨w.heap.size, 2, none⟩ = some (.string fr) ∧ w'.cell? ⟨w.heap.size, 3, none⟩ = some (.string tz) ∧ w'.cell? ⟨w.heap.size, 4, none⟩ = some (.int .i64 o) ∧ w'.cell? ⟨w.heap.size, 5, none⟩ = some (.int .i64 h) ∧ w'.cell? ⟨w.heap.size, 6, none⟩ = some (.int .i64 am) ∧ w'.cell? ⟨w.heap.size, 7, none⟩ = some (.bool pu))) (by kernel_rfl) (by simp [go_sem, cP, *]) (fun hHeld => ?_)
  refine tkA 0 7 rfl ?_
  refine tkA 1 8 rfl ?_
  refine tkA 2 9 rfl ?_
  refine tkA 3 10 rfl ?_
  refine tkA 4 11 rfl ?_
  refine tkA 5 12 rfl ?_
  refine tkA 6 13 rfl ?_
  refine tkA 7 14 rfl ?_
  refine tkA 8 15 rfl ?_
  refine tkA 9 3 rfl ?_
  refine tkA 10 4 rfl ?_
  refine tkA 11 5 rfl ?_
  refine wpAnyH_done (by kernel_rfl) ?_ _
  go_upto_region 4 with (fail)
  refine wp_region_held_drew (S := (fun w' => w'.cell? ⟨w.heap.size, 0, none⟩ = some (.int .i64 0) ∧ w'.cell? ⟨w.heap.size, 1, none⟩ = some (.int .i64 d) ∧ w'.cell? ⟨w.heap.size, 2, none⟩ = some (.string fr) ∧ w'.cell? ⟨w.heap.size, 3, none⟩ = some (.string tz) ∧ w'.cell? ⟨w.heap.size, 4, none⟩ = some (.int .i64 o) ∧ w'.cell? ⟨w.heap.size, 5, none⟩ = some (.int .i64 h) ∧ w'.cell? ⟨w.heap.size, 6, none⟩ = some (.int .i64 am) ∧ w'.cell? ⟨w.heap.size, 7, none⟩ = some (.bool pu))) (by kernel_rfl) (by simp [go_sem, cP, *]) (fun hHeld => ?_)
  refine tkA 0 26 rfl ?_
  refine tkA 1 27 rfl ?_
  refine tkA 3 29 rfl ?_
  refine tkA 4 30 rfl ?_
  refine rdA 2 rfl (fun K hK => ?_)
  go_simp
  refine (cRange_any _ _ _ _).mono ?_
  rintro e wq ⟨rfl, rfl⟩
  go_wp2_with fail
  refine hK.out _ _ (by simp [go_sem, cP, *]) (fun hHeld => ?_)
  clear hK K
  try simp only [Act.put, sA, sB, sC]
  refine rdA 5 rfl (fun K hK => ?_)
  go_simp
  refine (cRange_any _ _ _ _).mono ?_
  rintro e wq ⟨rfl, rfl⟩
  go_wp2_with fail
  refine hK.out _ _ (by simp [go_sem, cP, *]) (fun hHeld => ?_)
  clear hK K
  try simp only [Act.put, sA, sB, sC]
  refine rdA 6 rfl (fun K hK => ?_)
  go_simp
  go_wp2_with fail
  refine hK.out _ _ (by simp [go_sem, cP, *]) (fun hHeld => ?_)
  clear hK K
  try simp only [Act.put, sA, sB, sC]
  refine rdA 7 rfl (fun K hK => ?_)
  go_simp
  refine (cF2y (rngE d 0 100000) (rngE am 1 1000000000) 0 _ _ hF (by simp [go_sem]) (by simp [go_sem])).mono ?_
  rintro e wq ⟨rfl, rfl⟩
  go_wp2_with fail
  refine hK.out _ _ (by simp [go_sem, cP, *]) (fun hHeld => ?_)
  clear hK K
  try simp only [Act.put, sA, sB, sC]
  refine tkA 8 6 rfl ?_
  refine wpAnyH_done (by kernel_rfl) ?_ _
  go_wp2_with fail
  refine (CheckGas_y o h 0 _ hG).mono ?_
  rintro e xw1 ⟨rfl, hbx1⟩
  have zx1 := hbx1.size
  try simp at zx1
  obtain ⟨x1A0, x1A1, x1A2, x1A3, x1A4, x1A5, x1A6, x1A7⟩ : xw1.cell? ⟨w.heap.size, 0, none⟩ = some (.int .i64 0) ∧ xw1.cell? ⟨w.heap.size, 1, none⟩ = some (.int .i64 d) ∧ xw1.cell? ⟨w.heap.size, 2, none⟩ = some (.string fr) ∧ xw1.cell? ⟨w.heap.size, 3, none⟩ = some (.string tz) ∧ xw1.cell? ⟨w.heap.size, 4, none⟩ = some (.int .i64 o) ∧ xw1.cell? ⟨w.heap.size, 5, none⟩ = some (.int .i64 h) ∧ xw1.cell? ⟨w.heap.size, 6, none⟩ = some (.int .i64 am) ∧ xw1.cell? ⟨w.heap.size, 7, none⟩ = some (.bool pu) := by refine ⟨?_, ?_, ?_, ?_, ?_, ?_, ?_, ?_⟩ <;> (rw [bc1 hbx1]; simp [go_sem, cP, *])
  obtain ⟨x1o0, x1n0⟩ : w.heap.size < xw1.heap.size ∧ xw1.heap.size ≠ w.heap.size := by refine ⟨?_, ?_⟩ <;> omega
  have hBx1 : Below w.heap.size w xw1 := belA
  clear hbx1 
  go_wp2
  go_ret
  exact ⟨rfl, belA⟩
set_option maxHeartbeats 1000000 in
set_option maxRecDepth 100000 in
theorem alp_0F2 (d o h am : Int) (fr tz : ByteArray) (pu : Bool) (w : World) (hF : Hid (firE [rngE d 0 100000, rngE am 1 1000000000] = 0)) (hd : Hid (inB d 0 100000 = true)) (ha : Hid (inB am 1 1000000000 = true)) (hG : Hid (gasE o h = 0)) : Calls Try.prog 95 #[.agg #[.int .i64 0, .int .i64 d, .string ⟨#[]⟩, .string tz, .int .i64 o, .int .i64 h, .int .i64 am, .bool true]] w fun e w' => e = .returned (.int .i64 3) ∧ Below w.heap.size w w' := by
  have hd' := hd.out
  have ha' := ha.out
  go_enter Try.func95, Try.ntmps95
  go_upto_region 1 with (fail)
  refine wp_region_held_drew (S := (fun w' => w'.cell? ⟨w.heap.size, 0, none⟩ = some (.int .i64 0) ∧ w'.cell? ⟨w.heap.size, 1, none⟩ = some (.int .i64 d) ∧ w'.cell? ⟨w.heap.size, 2, none⟩ = some (.string ⟨#[]⟩) ∧ w'.cell? ⟨w.heap.size, 3, none⟩ = some (.string tz) ∧ w'.cell? ⟨w.heap.size, 4, none⟩ = some (.int .i64 o) ∧ w'.cell? ⟨w.heap.size, 5, none⟩ = some (.int .i64 h) ∧ w'.cell? ⟨w.heap.size, 6, none⟩ = some (.int .i64 am) ∧ w'.cell? ⟨w.heap.size, 7, none⟩ = some (.bool true))) (by kernel_rfl) (by simp [go_sem, cP, *]) (fun hHeld => ?_)
  refine tkA 0 7 rfl ?_
  refine tkA 1 8 rfl ?_
  refine tkA 2 9 rfl ?_
  refine tkA 3 10 rfl ?_
  refine tkA 4 11 rfl ?_
  refine tkA 5 12 rfl ?_
  refine tkA 6 13 rfl ?_
  refine tkA 7 14 rfl ?_
  refine tkA 8 15 rfl ?_
  refine tkA 9 3 rfl ?_
  refine tkA 10 4 rfl ?_
  refine tkA 11 5 rfl ?_
  refine wpAnyH_done (by kernel_rfl) ?_ _
  go_upto_region 4 with (fail)
  refine wp_region_held_drew (S := (fun w' => w'.cell? ⟨w.heap.size, 0, none⟩ = some (.int .i64 0) ∧ w'.cell? ⟨w.heap.size, 1, none⟩ = some (.int .i64 d) ∧ w'.cell? ⟨w.heap.size, 2, none⟩ = some (.string ⟨#[]⟩) ∧ w'.cell? ⟨w.heap.size, 3, none⟩ = some (.string tz) ∧ w'.cell? ⟨w.heap.size, 4, none⟩ = some (.int .i64 o) ∧ w'.cell? ⟨w.heap.size, 5, none⟩ = some (.int .i64 h) ∧ w'.cell? ⟨w.heap.size, 6, none⟩ = some (.int .i64 am) ∧ w'.cell? ⟨w.heap.size, 7, none⟩ = some (.bool true))) (by kernel_rfl) (by simp [go_sem, cP, *]) (fun hHeld => ?_)
  refine tkA 0 26 rfl ?_
  refine tkA 1 27 rfl ?_
  refine tkA 3 29 rfl ?_
  refine tkA 4 30 rfl ?_
  refine rdA 2 rfl (fun K hK => ?_)
  go_simp
  refine (cRange_any _ _ _ _).mono ?_
  rintro e wq ⟨rfl, rfl⟩
  go_wp2_with fail
  refine hK.out _ _ (by simp [go_sem, cP, *]) (fun hHeld => ?_)
  clear hK K
  try simp only [Act.put, sA, sB, sC]
  refine rdA 5 rfl (fun K hK => ?_)
  go_simp
  refine (cRange_any _ _ _ _).mono ?_
  rintro e wq ⟨rfl, rfl⟩
  go_wp2_with fail
  refine hK.out _ _ (by simp [go_sem, cP, *]) (fun hHeld => ?_)
  clear hK K
  try simp only [Act.put, sA, sB, sC]
  refine rdA 6 rfl (fun K hK => ?_)
  go_simp
  go_wp2_with fail
  refine hK.out _ _ (by simp [go_sem, cP, *]) (fun hHeld => ?_)
  clear hK K
  try simp only [Act.put, sA, sB, sC]
  refine rdA 7 rfl (fun K hK => ?_)
  go_simp
  refine (cF2y (rngE d 0 100000) (rngE am 1 1000000000) 0 _ _ hF (by simp [go_sem]) (by simp [go_sem])).mono ?_
  rintro e wq ⟨rfl, rfl⟩
  go_wp2_with fail
  refine hK.out _ _ (by simp [go_sem, cP, *]) (fun hHeld => ?_)
  clear hK K
  try simp only [Act.put, sA, sB, sC]
  refine tkA 8 6 rfl ?_
  refine wpAnyH_done (by kernel_rfl) ?_ _
  go_wp2_with fail
  refine (CheckGas_y o h 0 _ hG).mono ?_
  rintro e xw1 ⟨rfl, hbx1⟩
  have zx1 := hbx1.size
  try simp at zx1
  obtain ⟨x1A0, x1A1, x1A2, x1A3, x1A4, x1A5, x1A6, x1A7⟩ : xw1.cell? ⟨w.heap.size, 0, none⟩ = some (.int .i64 0) ∧ xw1.cell? ⟨w.heap.size, 1, none⟩ = some (.int .i64 d) ∧ xw1.cell? ⟨w.heap.size, 2, none⟩ = some (.string ⟨#[]⟩) ∧ xw1.cell? ⟨w.heap.size, 3, none⟩ = some (.string tz) ∧ xw1.cell? ⟨w.heap.size, 4, none⟩ = some (.int .i64 o) ∧ xw1.cell? ⟨w.heap.size, 5, none⟩ = some (.int .i64 h) ∧ xw1.cell? ⟨w.heap.size, 6, none⟩ = some (.int .i64 am) ∧ xw1.cell? ⟨w.heap.size, 7, none⟩ = some (.bool true) := by refine ⟨?_, ?_, ?_, ?_, ?_, ?_, ?_, ?_⟩ <;> (rw [bc1 hbx1]; simp [go_sem, cP, *])
  obtain ⟨x1o0, x1n0⟩ : w.heap.size < xw1.heap.size ∧ xw1.heap.size ≠ w.heap.size := by refine ⟨?_, ?_⟩ <;> omega
  have hBx1 : Below w.heap.size w xw1 := belA
  clear hbx1 
  go_wp2
  go_ret
  exact ⟨rfl, belA⟩
set_option maxHeartbeats 1000000 in
set_option maxRecDepth 100000 in
theorem alp_0OK (d o h am : Int) (fr tz : ByteArray) (pu : Bool) (w : World) (hF : Hid (firE [rngE d 0 100000, rngE am 1 1000000000] = 0)) (hd : Hid (inB d 0 100000 = true)) (ha : Hid (inB am 1 1000000000 = true)) (hG : Hid (gasE o h = 0)) : Calls Try.prog 95 #[.agg #[.int .i64 0, .int .i64 d, .string ⟨#[]⟩, .string tz, .int .i64 o, .int .i64 h, .int .i64 am, .bool false]] w fun e w' => e = .returned (.int .i64 0) ∧ Below w.heap.size w w' := by
  have hd' := hd.out
  have ha' := ha.out
  go_enter Try.func95, Try.ntmps95
  go_upto_region 1 with (fail)
  refine wp_region_held_drew (S := (fun w' => w'.cell? ⟨w.heap.size, 0, none⟩ = some (.int .i64 0) ∧ w'.cell? ⟨w.heap.size, 1, none⟩ = some (.int .i64 d) ∧ w'.cell? ⟨w.heap.size, 2, none⟩ = some (.string ⟨#[]⟩) ∧ w'.cell? ⟨w.heap.size, 3, none⟩ = some (.string tz) ∧ w'.cell? ⟨w.heap.size, 4, none⟩ = some (.int .i64 o) ∧ w'.cell? ⟨w.heap.size, 5, none⟩ = some (.int .i64 h) ∧ w'.cell? ⟨w.heap.size, 6, none⟩ = some (.int .i64 am) ∧ w'.cell? ⟨w.heap.size, 7, none⟩ = some (.bool false))) (by kernel_rfl) (by simp [go_sem, cP, *]) (fun hHeld => ?_)
  refine tkA 0 7 rfl ?_
  refine tkA 1 8 rfl ?_
  refine tkA 2 9 rfl ?_
  refine tkA 3 10 rfl ?_
  refine tkA 4 11 rfl ?_
  refine tkA 5 12 rfl ?_
  refine tkA 6 13 rfl ?_
  refine tkA 7 14 rfl ?_
  refine tkA 8 15 rfl ?_
  refine tkA 9 3 rfl ?_
  refine tkA 10 4 rfl ?_
  refine tkA 11 5 rfl ?_
  refine wpAnyH_done (by kernel_rfl) ?_ _
  go_upto_region 4 with (fail)
  refine wp_region_held_drew (S := (fun w' => w'.cell? ⟨w.heap.size, 0, none⟩ = some (.int .i64 0) ∧ w'.cell? ⟨w.heap.size, 1, none⟩ = some (.int .i64 d) ∧ w'.cell? ⟨w.heap.size, 2, none⟩ = some (.string ⟨#[]⟩) ∧ w'.cell? ⟨w.heap.size, 3, none⟩ = some (.string tz) ∧ w'.cell? ⟨w.heap.size, 4, none⟩ = some (.int .i64 o) ∧ w'.cell? ⟨w.heap.size, 5, none⟩ = some (.int .i64 h) ∧ w'.cell? ⟨w.heap.size, 6, none⟩ = some (.int .i64 am) ∧ w'.cell? ⟨w.heap.size, 7, none⟩ = some (.bool false))) (by kernel_rfl) (by simp [go_sem, cP, *]) (fun hHeld => ?_)
  refine tkA 0 26 rfl ?_
  refine tkA 1 27 rfl ?_
  refine tkA 3 29 rfl ?_
  refine tkA 4 30 rfl ?_
  refine rdA 2 rfl (fun K hK => ?_)
  go_simp
  refine (cRange_any _ _ _ _).mono ?_
  rintro e wq ⟨rfl, rfl⟩
  go_wp2_with fail
  refine hK.out _ _ (by simp [go_sem, cP, *]) (fun hHeld => ?_)
  clear hK K
  try simp only [Act.put, sA, sB, sC]
  refine rdA 5 rfl (fun K hK => ?_)
  go_simp
  refine (cRange_any _ _ _ _).mono ?_
  rintro e wq ⟨rfl, rfl⟩
  go_wp2_with fail
  refine hK.out _ _ (by simp [go_sem, cP, *]) (fun hHeld => ?_)
  clear hK K
  try simp only [Act.put, sA, sB, sC]
  refine rdA 6 rfl (fun K hK => ?_)
  go_simp
  go_wp2_with fail
  refine hK.out _ _ (by simp [go_sem, cP, *]) (fun hHeld => ?_)
  clear hK K
  try simp only [Act.put, sA, sB, sC]
  refine rdA 7 rfl (fun K hK => ?_)
  go_simp
  refine (cF2y (rngE d 0 100000) (rngE am 1 1000000000) 0 _ _ hF (by simp [go_sem]) (by simp [go_sem])).mono ?_
  rintro e wq ⟨rfl, rfl⟩
  go_wp2_with fail
  refine hK.out _ _ (by simp [go_sem, cP, *]) (fun hHeld => ?_)
  clear hK K
  try simp only [Act.put, sA, sB, sC]
  refine tkA 8 6 rfl ?_
  refine wpAnyH_done (by kernel_rfl) ?_ _
  go_wp2_with fail
  refine (CheckGas_y o h 0 _ hG).mono ?_
  rintro e xw1 ⟨rfl, hbx1⟩
  have zx1 := hbx1.size
  try simp at zx1
  obtain ⟨x1A0, x1A1, x1A2, x1A3, x1A4, x1A5, x1A6, x1A7⟩ : xw1.cell? ⟨w.heap.size, 0, none⟩ = some (.int .i64 0) ∧ xw1.cell? ⟨w.heap.size, 1, none⟩ = some (.int .i64 d) ∧ xw1.cell? ⟨w.heap.size, 2, none⟩ = some (.string ⟨#[]⟩) ∧ xw1.cell? ⟨w.heap.size, 3, none⟩ = some (.string tz) ∧ xw1.cell? ⟨w.heap.size, 4, none⟩ = some (.int .i64 o) ∧ xw1.cell? ⟨w.heap.size, 5, none⟩ = some (.int .i64 h) ∧ xw1.cell? ⟨w.heap.size, 6, none⟩ = some (.int .i64 am) ∧ xw1.cell? ⟨w.heap.size, 7, none⟩ = some (.bool false) := by refine ⟨?_, ?_, ?_, ?_, ?_, ?_, ?_, ?_⟩ <;> (rw [bc1 hbx1]; simp [go_sem, cP, *])
  obtain ⟨x1o0, x1n0⟩ : w.heap.size < xw1.heap.size ∧ xw1.heap.size ≠ w.heap.size := by refine ⟨?_, ?_⟩ <;> omega
  have hBx1 : Below w.heap.size w xw1 := belA
  clear hbx1 
  go_wp2
  go_ret
  exact ⟨rfl, belA⟩
set_option maxHeartbeats 1000000 in
set_option maxRecDepth 100000 in
theorem alp_1R1 (d o h am : Int) (fr tz : ByteArray) (pu : Bool) (w : World) (hF : Hid (firE [rngE d 0 100000, rngE am 1 1000000000] = 2)) (hd : Hid (inB d 0 100000 = false)) : Calls Try.prog 95 #[.agg #[.int .i64 1, .int .i64 d, .string fr, .string tz, .int .i64 o, .int .i64 h, .int .i64 am, .bool pu]] w fun e w' => e = .returned (.int .i64 2) ∧ Below w.heap.size w w' := by
  have hd' := hd.out
  go_enter Try.func95, Try.ntmps95
  go_upto_region 1 with (fail)
  refine wp_region_held_drew (S := (fun w' => w'.cell? ⟨w.heap.size, 0, none⟩ = some (.int .i64 1) ∧ w'.cell? ⟨w.heap.size, 1, none⟩ = some (.int .i64 d) ∧ w'.cell? ⟨w.heap.size, 2, none⟩ = some (.string fr) ∧ w'.cell? ⟨w.heap.size, 3, none⟩ = some (.string tz) ∧ w'.cell? ⟨w.heap.size, 4, none⟩ = some (.int .i64 o) ∧ w'.cell? ⟨w.heap.size, 5, none⟩ = some (.int .i64 h) ∧ w'.cell? ⟨w.heap.size, 6, none⟩ = some (.int .i64 am) ∧ w'.cell? ⟨w.heap.size, 7, none⟩ = some (.bool pu))) (by kernel_rfl) (by simp [go_sem, cP, *]) (fun hHeld => ?_)
  refine tkA 0 7 rfl ?_
  refine tkA 1 8 rfl ?_
  refine tkA 2 9 rfl ?_
  refine tkA 3 10 rfl ?_
  refine tkA 4 11 rfl ?_
  refine tkA 5 12 rfl ?_
  refine tkA 6 13 rfl ?_
  refine tkA 7 14 rfl ?_
  refine tkA 8 15 rfl ?_
  refine tkA 9 3 rfl ?_
  refine tkA 10 4 rfl ?_
  refine tkA 11 5 rfl ?_
  refine wpAnyH_done (by kernel_rfl) ?_ _
  go_upto_region 4 with (fail)
  refine wp_region_held_drew (S := (fun w' => w'.cell? ⟨w.heap.size, 0, none⟩ = some (.int .i64 1) ∧ w'.cell? ⟨w.heap.size, 1, none⟩ = some (.int .i64 d) ∧ w'.cell? ⟨w.heap.size, 2, none⟩ = some (.string fr) ∧ w'.cell? ⟨w.heap.size, 3, none⟩ = some (.string tz) ∧ w'.cell? ⟨w.heap.size, 4, none⟩ = some (.int .i64 o) ∧ w'.cell? ⟨w.heap.size, 5, none⟩ = some (.int .i64 h) ∧ w'.cell? ⟨w.heap.size, 6, none⟩ = some (.int .i64 am) ∧ w'.cell? ⟨w.heap.size, 7, none⟩ = some (.bool pu))) (by kernel_rfl) (by simp [go_sem, cP, *]) (fun hHeld => ?_)
  refine tkA 0 26 rfl ?_
  refine tkA 1 27 rfl ?_
  refine tkA 3 29 rfl ?_
  refine tkA 4 30 rfl ?_
  refine rdA 2 rfl (fun K hK => ?_)
  go_simp
  refine (cRange_any _ _ _ _).mono ?_
  rintro e wq ⟨rfl, rfl⟩
  go_wp2_with fail
  refine hK.out _ _ (by simp [go_sem, cP, *]) (fun hHeld => ?_)
  clear hK K
  try simp only [Act.put, sA, sB, sC]
  refine rdA 5 rfl (fun K hK => ?_)
  go_simp
  refine (cRange_any _ _ _ _).mono ?_
  rintro e wq ⟨rfl, rfl⟩
  go_wp2_with fail
  refine hK.out _ _ (by simp [go_sem, cP, *]) (fun hHeld => ?_)
  clear hK K
  try simp only [Act.put, sA, sB, sC]
  refine rdA 6 rfl (fun K hK => ?_)
  go_simp
  go_wp2_with fail
  refine hK.out _ _ (by simp [go_sem, cP, *]) (fun hHeld => ?_)
  clear hK K
  try simp only [Act.put, sA, sB, sC]
  refine rdA 7 rfl (fun K hK => ?_)
  go_simp
  refine (cF2y (rngE d 0 100000) (rngE am 1 1000000000) 2 _ _ hF (by simp [go_sem]) (by simp [go_sem])).mono ?_
  rintro e wq ⟨rfl, rfl⟩
  go_wp2_with fail
  refine hK.out _ _ (by simp [go_sem, cP, *]) (fun hHeld => ?_)
  clear hK K
  try simp only [Act.put, sA, sB, sC]
  refine tkA 8 6 rfl ?_
  refine wpAnyH_done (by kernel_rfl) ?_ _
  go_wp2
  go_ret
  exact ⟨rfl, belA⟩
set_option maxHeartbeats 1000000 in
set_option maxRecDepth 100000 in
theorem alp_1R2 (d o h am : Int) (fr tz : ByteArray) (pu : Bool) (w : World) (hF : Hid (firE [rngE d 0 100000, rngE am 1 1000000000] = 2)) (hd : Hid (inB d 0 100000 = true)) (ha : Hid (inB am 1 1000000000 = false)) : Calls Try.prog 95 #[.agg #[.int .i64 1, .int .i64 d, .string fr, .string tz, .int .i64 o, .int .i64 h, .int .i64 am, .bool pu]] w fun e w' => e = .returned (.int .i64 2) ∧ Below w.heap.size w w' := by
  have hd' := hd.out
  have ha' := ha.out
  go_enter Try.func95, Try.ntmps95
  go_upto_region 1 with (fail)
  refine wp_region_held_drew (S := (fun w' => w'.cell? ⟨w.heap.size, 0, none⟩ = some (.int .i64 1) ∧ w'.cell? ⟨w.heap.size, 1, none⟩ = some (.int .i64 d) ∧ w'.cell? ⟨w.heap.size, 2, none⟩ = some (.string fr) ∧ w'.cell? ⟨w.heap.size, 3, none⟩ = some (.string tz) ∧ w'.cell? ⟨w.heap.size, 4, none⟩ = some (.int .i64 o) ∧ w'.cell? ⟨w.heap.size, 5, none⟩ = some (.int .i64 h) ∧ w'.cell? ⟨w.heap.size, 6, none⟩ = some (.int .i64 am) ∧ w'.cell? ⟨w.heap.size, 7, none⟩ = some (.bool pu))) (by kernel_rfl) (by simp [go_sem, cP, *]) (fun hHeld => ?_)
  refine tkA 0 7 rfl ?_
  refine tkA 1 8 rfl ?_
  refine tkA 2 9 rfl ?_
  refine tkA 3 10 rfl ?_
  refine tkA 4 11 rfl ?_
  refine tkA 5 12 rfl ?_
  refine tkA 6 13 rfl ?_
  refine tkA 7 14 rfl ?_
  refine tkA 8 15 rfl ?_
  refine tkA 9 3 rfl ?_
  refine tkA 10 4 rfl ?_
  refine tkA 11 5 rfl ?_
  refine wpAnyH_done (by kernel_rfl) ?_ _
  go_upto_region 4 with (fail)
  refine wp_region_held_drew (S := (fun w' => w'.cell? ⟨w.heap.size, 0, none⟩ = some (.int .i64 1) ∧ w'.cell? ⟨w.heap.size, 1, none⟩ = some (.int .i64 d) ∧ w'.cell? ⟨w.heap.size, 2, none⟩ = some (.string fr) ∧ w'.cell? ⟨w.heap.size, 3, none⟩ = some (.string tz) ∧ w'.cell? ⟨w.heap.size, 4, none⟩ = some (.int .i64 o) ∧ w'.cell? ⟨w.heap.size, 5, none⟩ = some (.int .i64 h) ∧ w'.cell? ⟨w.heap.size, 6, none⟩ = some (.int .i64 am) ∧ w'.cell? ⟨w.heap.size, 7, none⟩ = some (.bool pu))) (by kernel_rfl) (by simp [go_sem, cP, *]) (fun hHeld => ?_)
  refine tkA 0 26 rfl ?_
  refine tkA 1 27 rfl ?_
  refine tkA 3 29 rfl ?_
  refine tkA 4 30 rfl ?_
  refine rdA 2 rfl (fun K hK => ?_)
  go_simp
  refine (cRange_any _ _ _ _).mono ?_
  rintro e wq ⟨rfl, rfl⟩
  go_wp2_with fail
  refine hK.out _ _ (by simp [go_sem, cP, *]) (fun hHeld => ?_)
  clear hK K
  try simp only [Act.put, sA, sB, sC]
  refine rdA 5 rfl (fun K hK => ?_)
  go_simp
  refine (cRange_any _ _ _ _).mono ?_
  rintro e wq ⟨rfl, rfl⟩
  go_wp2_with fail
  refine hK.out _ _ (by simp [go_sem, cP, *]) (fun hHeld => ?_)
  clear hK K
  try simp only [Act.put, sA, sB, sC]
  refine rdA 6 rfl (fun K hK => ?_)
  go_simp
  go_wp2_with fail
  refine hK.out _ _ (by simp [go_sem, cP, *]) (fun hHeld => ?_)
  clear hK K
  try simp only [Act.put, sA, sB, sC]
  refine rdA 7 rfl (fun K hK => ?_)
  go_simp
  refine (cF2y (rngE d 0 100000) (rngE am 1 1000000000) 2 _ _ hF (by simp [go_sem]) (by simp [go_sem])).mono ?_
  rintro e wq ⟨rfl, rfl⟩
  go_wp2_with fail
  refine hK.out _ _ (by simp [go_sem, cP, *]) (fun hHeld => ?_)
  clear hK K
  try simp only [Act.put, sA, sB, sC]
  refine tkA 8 6 rfl ?_
  refine wpAnyH_done (by kernel_rfl) ?_ _
  go_wp2
  go_ret
  exact ⟨rfl, belA⟩
set_option maxHeartbeats 1000000 in
set_option maxRecDepth 100000 in
theorem alp_1Z1 (d o h am : Int) (fr tz : ByteArray) (pu : Bool) (w : World) (hF : Hid (firE [rngE d 0 100000, rngE am 1 1000000000] = 0)) (hd : Hid (inB d 0 100000 = true)) (ha : Hid (inB am 1 1000000000 = true)) (g : Int) (hG : Hid (gasE o h = g)) (ho : ¬ o = 0) : Calls Try.prog 95 #[.agg #[.int .i64 1, .int .i64 d, .string fr, .string tz, .int .i64 o, .int .i64 h, .int .i64 am, .bool pu]] w fun e w' => e = .returned (.int .i64 2) ∧ Below w.heap.size w w' := by
  have hd' := hd.out
  have ha' := ha.out
  have ho2 : (o == 0) = false := by simpa using ho
  rcases ez2b g with ⟨hg0, hg⟩ | ⟨hg0, hg⟩
  · go_enter Try.func95, Try.ntmps95
    go_upto_region 1 with (fail)
    refine wp_region_held_drew (S := (fun w' => w'.cell? ⟨w.heap.size, 0, none⟩ = some (.int .i64 1) ∧ w'.cell? ⟨w.heap.size, 1, none⟩ = some (.int .i64 d) ∧ w'.cell? ⟨w.heap.size, 2, none⟩ = some (.string fr) ∧ w'.cell? ⟨w.heap.size, 3, none⟩ = some (.string tz) ∧ w'.cell? ⟨w.heap.size, 4, none⟩ = some (.int .i64 o) ∧ w'.cell? ⟨w.heap.size, 5, none⟩ = some (.int .i64 h) ∧ w'.cell? ⟨w.heap.size, 6, none⟩ = some (.int .i64 am) ∧ w'.cell? ⟨w.heap.size, 7, none⟩ = some (.bool pu))) (by kernel_rfl) (by simp [go_sem, cP, *]) (fun hHeld => ?_)
    refine tkA 0 7 rfl ?_
    refine tkA 1 8 rfl ?_
    refine tkA 2 9 rfl ?_
    refine tkA 3 10 rfl ?_
    refine tkA 4 11 rfl ?_
    refine tkA 5 12 rfl ?_
    refine tkA 6 13 rfl ?_
    refine tkA 7 14 rfl ?_
    refine tkA 8 15 rfl ?_
    refine tkA 9 3 rfl ?_
    refine tkA 10 4 rfl ?_
    refine tkA 11 5 rfl ?_
    refine wpAnyH_done (by kernel_rfl) ?_ _
    go_upto_region 4 with (fail)
    refine wp_region_held_drew (S := (fun w' => w'.cell? ⟨w.heap.size, 0, none⟩ = some (.int .i64 1) ∧ w'.cell? ⟨w.heap.size, 1, none⟩ = some (.int .i64 d) ∧ w'.cell? ⟨w.heap.size, 2, none⟩ = some (.string fr) ∧ w'.cell? ⟨w.heap.size, 3, none⟩ = some (.string tz) ∧ w'.cell? ⟨w.heap.size, 4, none⟩ = some (.int .i64 o) ∧ w'.cell? ⟨w.heap.size, 5, none⟩ = some (.int .i64 h) ∧ w'.cell? ⟨w.heap.size, 6, none⟩ = some (.int .i64 am) ∧ w'.cell? ⟨w.heap.size, 7, none⟩ = some (.bool pu))) (by kernel_rfl) (by simp [go_sem, cP, *]) (fun hHeld => ?_)
    refine tkA 0 26 rfl ?_
    refine tkA 1 27 rfl ?_
    refine tkA 3 29 rfl ?_
    refine tkA 4 30 rfl ?_
    refine rdA 2 rfl (fun K hK => ?_)
    go_simp
    refine (cRange_any _ _ _ _).mono ?_
    rintro e wq ⟨rfl, rfl⟩
    go_wp2_with fail
    refine hK.out _ _ (by simp [go_sem, cP, *]) (fun hHeld => ?_)
    clear hK K
    try simp only [Act.put, sA, sB, sC]
    refine rdA 5 rfl (fun K hK => ?_)
    go_simp
    refine (cRange_any _ _ _ _).mono ?_
    rintro e wq ⟨rfl, rfl⟩
    go_wp2_with fail
    refine hK.out _ _ (by simp [go_sem, cP, *]) (fun hHeld => ?_)
    clear hK K
    try simp only [Act.put, sA, sB, sC]
    refine rdA 6 rfl (fun K hK => ?_)
    go_simp
    go_wp2_with fail
    refine hK.out _ _ (by simp [go_sem, cP, *]) (fun hHeld => ?_)
    clear hK K
    try simp only [Act.put, sA, sB, sC]
    refine rdA 7 rfl (fun K hK => ?_)
    go_simp
    refine (cF2y (rngE d 0 100000) (rngE am 1 1000000000) 0 _ _ hF (by simp [go_sem]) (by simp [go_sem])).mono ?_
    rintro e wq ⟨rfl, rfl⟩
    go_wp2_with fail
    refine hK.out _ _ (by simp [go_sem, cP, *]) (fun hHeld => ?_)
    clear hK K
    try simp only [Act.put, sA, sB, sC]
    refine tkA 8 6 rfl ?_
    refine wpAnyH_done (by kernel_rfl) ?_ _
    go_wp2_with fail
    refine (CheckGas_y o h g _ hG).mono ?_
    rintro e xw1 ⟨rfl, hbx1⟩
    have zx1 := hbx1.size
    try simp at zx1
    obtain ⟨x1A0, x1A1, x1A2, x1A3, x1A4, x1A5, x1A6, x1A7⟩ : xw1.cell? ⟨w.heap.size, 0, none⟩ = some (.int .i64 1) ∧ xw1.cell? ⟨w.heap.size, 1, none⟩ = some (.int .i64 d) ∧ xw1.cell? ⟨w.heap.size, 2, none⟩ = some (.string fr) ∧ xw1.cell? ⟨w.heap.size, 3, none⟩ = some (.string tz) ∧ xw1.cell? ⟨w.heap.size, 4, none⟩ = some (.int .i64 o) ∧ xw1.cell? ⟨w.heap.size, 5, none⟩ = some (.int .i64 h) ∧ xw1.cell? ⟨w.heap.size, 6, none⟩ = some (.int .i64 am) ∧ xw1.cell? ⟨w.heap.size, 7, none⟩ = some (.bool pu) := by refine ⟨?_, ?_, ?_, ?_, ?_, ?_, ?_, ?_⟩ <;> (rw [bc1 hbx1]; simp [go_sem, cP, *])
    obtain ⟨x1o0, x1n0⟩ : w.heap.size < xw1.heap.size ∧ xw1.heap.size ≠ w.heap.size := by refine ⟨?_, ?_⟩ <;> omega
    have hBx1 : Below w.heap.size w xw1 := belA
    clear hbx1 
    go_wp2
    go_ret
    exact ⟨rfl, belA⟩
  · go_enter Try.func95, Try.ntmps95
    go_upto_region 1 with (fail)
    refine wp_region_held_drew (S := (fun w' => w'.cell? ⟨w.heap.size, 0, none⟩ = some (.int .i64 1) ∧ w'.cell? ⟨w.heap.size, 1, none⟩ = some (.int .i64 d) ∧ w'.cell? ⟨w.heap.size, 2, none⟩ = some (.string fr) ∧ w'.cell? ⟨w.heap.size, 3, none⟩ = some (.string tz) ∧ w'.cell? ⟨w.heap.size, 4, none⟩ = some (.int .i64 o) ∧ w'.cell? ⟨w.heap.size, 5, none⟩ = some (.int .i64 h) ∧ w'.cell? ⟨w.heap.size, 6, none⟩ = some (.int .i64 am) ∧ w'.cell? ⟨w.heap.size, 7, none⟩ = some (.bool pu))) (by kernel_rfl) (by simp [go_sem, cP, *]) (fun hHeld => ?_)
    refine tkA 0 7 rfl ?_
    refine tkA 1 8 rfl ?_
    refine tkA 2 9 rfl ?_
    refine tkA 3 10 rfl ?_
    refine tkA 4 11 rfl ?_
    refine tkA 5 12 rfl ?_
    refine tkA 6 13 rfl ?_
    refine tkA 7 14 rfl ?_
    refine tkA 8 15 rfl ?_
    refine tkA 9 3 rfl ?_
    refine tkA 10 4 rfl ?_
    refine tkA 11 5 rfl ?_
    refine wpAnyH_done (by kernel_rfl) ?_ _
    go_upto_region 4 with (fail)
    refine wp_region_held_drew (S := (fun w' => w'.cell? ⟨w.heap.size, 0, none⟩ = some (.int .i64 1) ∧ w'.cell? ⟨w.heap.size, 1, none⟩ = some (.int .i64 d) ∧ w'.cell? ⟨w.heap.size, 2, none⟩ = some (.string fr) ∧ w'.cell? ⟨w.heap.size, 3, none⟩ = some (.string tz) ∧ w'.cell? ⟨w.heap.size, 4, none⟩ = some (.int .i64 o) ∧ w'.cell? ⟨w.heap.size, 5, none⟩ = some (.int .i64 h) ∧ w'.cell? ⟨w.heap.size, 6, none⟩ = some (.int .i64 am) ∧ w'.cell? ⟨w.heap.size, 7, none⟩ = some (.bool pu))) (by kernel_rfl) (by simp [go_sem, cP, *]) (fun hHeld => ?_)
    refine tkA 0 26 rfl ?_
    refine tkA 1 27 rfl ?_
    refine tkA 3 29 rfl ?_
    refine tkA 4 30 rfl ?_
    refine rdA 2 rfl (fun K hK => ?_)
    go_simp
    refine (cRange_any _ _ _ _).mono ?_
    rintro e wq ⟨rfl, rfl⟩
    go_wp2_with fail
    refine hK.out _ _ (by simp [go_sem, cP, *]) (fun hHeld => ?_)
    clear hK K
    try simp only [Act.put, sA, sB, sC]
    refine rdA 5 rfl (fun K hK => ?_)
    go_simp
    refine (cRange_any _ _ _ _).mono ?_
    rintro e wq ⟨rfl, rfl⟩
    go_wp2_with fail
    refine hK.out _ _ (by simp [go_sem, cP, *]) (fun hHeld => ?_)
    clear hK K
    try simp only [Act.put, sA, sB, sC]
    refine rdA 6 rfl (fun K hK => ?_)
    go_simp
    go_wp2_with fail
    refine hK.out _ _ (by simp [go_sem, cP, *]) (fun hHeld => ?_)
    clear hK K
    try simp only [Act.put, sA, sB, sC]
    refine rdA 7 rfl (fun K hK => ?_)
    go_simp
    refine (cF2y (rngE d 0 100000) (rngE am 1 1000000000) 0 _ _ hF (by simp [go_sem]) (by simp [go_sem])).mono ?_
    rintro e wq ⟨rfl, rfl⟩
    go_wp2_with fail
    refine hK.out _ _ (by simp [go_sem, cP, *]) (fun hHeld => ?_)
    clear hK K
    try simp only [Act.put, sA, sB, sC]
    refine tkA 8 6 rfl ?_
    refine wpAnyH_done (by kernel_rfl) ?_ _
    go_wp2_with fail
    refine (CheckGas_y o h g _ hG).mono ?_
    rintro e xw1 ⟨rfl, hbx1⟩
    have zx1 := hbx1.size
    try simp at zx1
    obtain ⟨x1A0, x1A1, x1A2, x1A3, x1A4, x1A5, x1A6, x1A7⟩ : xw1.cell? ⟨w.heap.size, 0, none⟩ = some (.int .i64 1) ∧ xw1.cell? ⟨w.heap.size, 1, none⟩ = some (.int .i64 d) ∧ xw1.cell? ⟨w.heap.size, 2, none⟩ = some (.string fr) ∧ xw1.cell? ⟨w.heap.size, 3, none⟩ = some (.string tz) ∧ xw1.cell? ⟨w.heap.size, 4, none⟩ = some (.int .i64 o) ∧ xw1.cell? ⟨w.heap.size, 5, none⟩ = some (.int .i64 h) ∧ xw1.cell? ⟨w.heap.size, 6, none⟩ = some (.int .i64 am) ∧ xw1.cell? ⟨w.heap.size, 7, none⟩ = some (.bool pu) := by refine ⟨?_, ?_, ?_, ?_, ?_, ?_, ?_, ?_⟩ <;> (rw [bc1 hbx1]; simp [go_sem, cP, *])
    obtain ⟨x1o0, x1n0⟩ : w.heap.size < xw1.heap.size ∧ xw1.heap.size ≠ w.heap.size := by refine ⟨?_, ?_⟩ <;> omega
    have hBx1 : Below w.heap.size w xw1 := belA
    clear hbx1 
    go_wp2
    go_ret
    exact ⟨rfl, belA⟩
set_option maxHeartbeats 1000000 in
set_option maxRecDepth 100000 in
theorem alp_1Z2 (d o h am : Int) (fr tz : ByteArray) (pu : Bool) (w : World) (hF : Hid (firE [rngE d 0 100000, rngE am 1 1000000000] = 0)) (hd : Hid (inB d 0 100000 = true)) (ha : Hid (inB am 1 1000000000 = true)) (g : Int) (hG : Hid (gasE 0 h = g)) (ho : ¬ h = 0) : Calls Try.prog 95 #[.agg #[.int .i64 1, .int .i64 d, .string fr, .string tz, .int .i64 0, .int .i64 h, .int .i64 am, .bool pu]] w fun e w' => e = .returned (.int .i64 2) ∧ Below w.heap.size w w' := by
  have hd' := hd.out
  have ha' := ha.out
  have ho2 : (h == 0) = false := by simpa using ho
  rcases ez2b g with ⟨hg0, hg⟩ | ⟨hg0, hg⟩
  · go_enter Try.func95, Try.ntmps95
    go_upto_region 1 with (fail)
    refine wp_region_held_drew (S := (fun w' => w'.cell? ⟨w.heap.size, 0, none⟩ = some (.int .i64 1) ∧ w'.cell? ⟨w.heap.size, 1, none⟩ = some (.int .i64 d) ∧ w'.cell? ⟨w.heap.size, 2, none⟩ = some (.string fr) ∧ w'.cell? ⟨w.heap.size, 3, none⟩ = some (.string tz) ∧ w'.cell? ⟨w.heap.size, 4, none⟩ = some (.int .i64 0) ∧ w'.cell? ⟨w.heap.size, 5, none⟩ = some (.int .i64 h) ∧ w'.cell? ⟨w.heap.size, 6, none⟩ = some (.int .i64 am) ∧ w'.cell? ⟨w.heap.size, 7, none⟩ = some (.bool pu))) (by kernel_rfl) (by simp [go_sem, cP, *]) (fun hHeld => ?_)
    refine tkA 0 7 rfl ?_
    refine tkA 1 8 rfl ?_
    refine tkA 2 9 rfl ?_
    refine tkA 3 10 rfl ?_
    refine tkA 4 11 rfl ?_
    refine tkA 5 12 rfl ?_
    refine tkA 6 13 rfl ?_
    refine tkA 7 14 rfl ?_
    refine tkA 8 15 rfl ?_
    refine tkA 9 3 rfl ?_
    refine tkA 10 4 rfl ?_
    refine tkA 11 5 rfl ?_
    refine wpAnyH_done (by kernel_rfl) ?_ _
    go_upto_region 4 with (fail)
    refine wp_region_held_drew (S := (fun w' => w'.cell? ⟨w.heap.size, 0, none⟩ = some (.int .i64 1) ∧ w'.cell? ⟨w.heap.size, 1, none⟩ = some (.int .i64 d) ∧ w'.cell? ⟨w.heap.size, 2, none⟩ = some (.string fr) ∧ w'.cell? ⟨w.heap.size, 3, none⟩ = some (.string tz) ∧ w'.cell? ⟨w.heap.size, 4, none⟩ = some (.int .i64 0) ∧ w'.cell? ⟨w.heap.size, 5, none⟩ = some (.int .i64 h) ∧ w'.cell? ⟨w.heap.size, 6, none⟩ = some (.int .i64 am) ∧ w'.cell? ⟨w.heap.size, 7, none⟩ = some (.bool pu))) (by kernel_rfl) (by simp [go_sem, cP, *]) (fun hHeld => ?_)
    refine tkA 0 26 rfl ?_
    refine tkA 1 27 rfl ?_
    refine tkA 3 29 rfl ?_
    refine tkA 4 30 rfl ?_
    refine rdA 2 rfl (fun K hK => ?_)
    go_simp
    refine (cRange_any _ _ _ _).mono ?_
    rintro e wq ⟨rfl, rfl⟩
    go_wp2_with fail
    refine hK.out _ _ (by simp [go_sem, cP, *]) (fun hHeld => ?_)
    clear hK K
    try simp only [Act.put, sA, sB, sC]
    refine rdA 5 rfl (fun K hK => ?_)
    go_simp
    refine (cRange_any _ _ _ _).mono ?_
    rintro e wq ⟨rfl, rfl⟩
    go_wp2_with fail
    refine hK.out _ _ (by simp [go_sem, cP, *]) (fun hHeld => ?_)
    clear hK K
    try simp only [Act.put, sA, sB, sC]
    refine rdA 6 rfl (fun K hK => ?_)
    go_simp
    go_wp2_with fail
    refine hK.out _ _ (by simp [go_sem, cP, *]) (fun hHeld => ?_)
    clear hK K
    try simp only [Act.put, sA, sB, sC]
    refine rdA 7 rfl (fun K hK => ?_)
    go_simp
    refine (cF2y (rngE d 0 100000) (rngE am 1 1000000000) 0 _ _ hF (by simp [go_sem]) (by simp [go_sem])).mono ?_
    rintro e wq ⟨rfl, rfl⟩
    go_wp2_with fail
    refine hK.out _ _ (by simp [go_sem, cP, *]) (fun hHeld => ?_)
    clear hK K
    try simp only [Act.put, sA, sB, sC]
    refine tkA 8 6 rfl ?_
    refine wpAnyH_done (by kernel_rfl) ?_ _
    go_wp2_with fail
    refine (CheckGas_y 0 h g _ hG).mono ?_
    rintro e xw1 ⟨rfl, hbx1⟩
    have zx1 := hbx1.size
    try simp at zx1
    obtain ⟨x1A0, x1A1, x1A2, x1A3, x1A4, x1A5, x1A6, x1A7⟩ : xw1.cell? ⟨w.heap.size, 0, none⟩ = some (.int .i64 1) ∧ xw1.cell? ⟨w.heap.size, 1, none⟩ = some (.int .i64 d) ∧ xw1.cell? ⟨w.heap.size, 2, none⟩ = some (.string fr) ∧ xw1.cell? ⟨w.heap.size, 3, none⟩ = some (.string tz) ∧ xw1.cell? ⟨w.heap.size, 4, none⟩ = some (.int .i64 0) ∧ xw1.cell? ⟨w.heap.size, 5, none⟩ = some (.int .i64 h) ∧ xw1.cell? ⟨w.heap.size, 6, none⟩ = some (.int .i64 am) ∧ xw1.cell? ⟨w.heap.size, 7, none⟩ = some (.bool pu) := by refine ⟨?_, ?_, ?_, ?_, ?_, ?_, ?_, ?_⟩ <;> (rw [bc1 hbx1]; simp [go_sem, cP, *])
    obtain ⟨x1o0, x1n0⟩ : w.heap.size < xw1.heap.size ∧ xw1.heap.size ≠ w.heap.size := by refine ⟨?_, ?_⟩ <;> omega
    have hBx1 : Below w.heap.size w xw1 := belA
    clear hbx1 
    go_wp2
    go_ret
    exact ⟨rfl, belA⟩
  · go_enter Try.func95, Try.ntmps95
    go_upto_region 1 with (fail)
    refine wp_region_held_drew (S := (fun w' => w'.cell? ⟨w.heap.size, 0, none⟩ = some (.int .i64 1) ∧ w'.cell? ⟨w.heap.size, 1, none⟩ = some (.int .i64 d) ∧ w'.cell? ⟨w.heap.size, 2, none⟩ = some (.string fr) ∧ w'.cell? ⟨w.heap.size, 3, none⟩ = some (.string tz) ∧ w'.cell? ⟨w.heap.size, 4, none⟩ = some (.int .i64 0) ∧ w'.cell? ⟨w.heap.size, 5, none⟩ = some (.int .i64 h) ∧ w'.cell? ⟨w.heap.size, 6, none⟩ = some (.int .i64 am) ∧ w'.cell? ⟨w.heap.size, 7, none⟩ = some (.bool pu))) (by kernel_rfl) (by simp [go_sem, cP, *]) (fun hHeld => ?_)
    refine tkA 0 7 rfl ?_
    refine tkA 1 8 rfl ?_
    refine tkA 2 9 rfl ?_
    refine tkA 3 10 rfl ?_
    refine tkA 4 11 rfl ?_
    refine tkA 5 12 rfl ?_
    refine tkA 6 13 rfl ?_
    refine tkA 7 14 rfl ?_
    refine tkA 8 15 rfl ?_
    refine tkA 9 3 rfl ?_
    refine tkA 10 4 rfl ?_
    refine tkA 11 5 rfl ?_
    refine wpAnyH_done (by kernel_rfl) ?_ _
    go_upto_region 4 with (fail)
    refine wp_region_held_drew (S := (fun w' => w'.cell? ⟨w.heap.size, 0, none⟩ = some (.int .i64 1) ∧ w'.cell? ⟨w.heap.size, 1, none⟩ = some (.int .i64 d) ∧ w'.cell? ⟨w.heap.size, 2, none⟩ = some (.string fr) ∧ w'.cell? ⟨w.heap.size, 3, none⟩ = some (.string tz) ∧ w'.cell? ⟨w.heap.size, 4, none⟩ = some (.int .i64 0) ∧ w'.cell? ⟨w.heap.size, 5, none⟩ = some (.int .i64 h) ∧ w'.cell? ⟨w.heap.size, 6, none⟩ = some (.int .i64 am) ∧ w'.cell? ⟨w.heap.size, 7, none⟩ = some (.bool pu))) (by kernel_rfl) (by simp [go_sem, cP, *]) (fun hHeld => ?_)
    refine tkA 0 26 rfl ?_
    refine tkA 1 27 rfl ?_
    refine tkA 3 29 rfl ?_
    refine tkA 4 30 rfl ?_
    refine rdA 2 rfl (fun K hK => ?_)
    go_simp
    refine (cRange_any _ _ _ _).mono ?_
    rintro e wq ⟨rfl, rfl⟩
    go_wp2_with fail
    refine hK.out _ _ (by simp [go_sem, cP, *]) (fun hHeld => ?_)
    clear hK K
    try simp only [Act.put, sA, sB, sC]
    refine rdA 5 rfl (fun K hK => ?_)
    go_simp
    refine (cRange_any _ _ _ _).mono ?_
    rintro e wq ⟨rfl, rfl⟩
    go_wp2_with fail
    refine hK.out _ _ (by simp [go_sem, cP, *]) (fun hHeld => ?_)
    clear hK K
    try simp only [Act.put, sA, sB, sC]
    refine rdA 6 rfl (fun K hK => ?_)
    go_simp
    go_wp2_with fail
    refine hK.out _ _ (by simp [go_sem, cP, *]) (fun hHeld => ?_)
    clear hK K
    try simp only [Act.put, sA, sB, sC]
    refine rdA 7 rfl (fun K hK => ?_)
    go_simp
    refine (cF2y (rngE d 0 100000) (rngE am 1 1000000000) 0 _ _ hF (by simp [go_sem]) (by simp [go_sem])).mono ?_
    rintro e wq ⟨rfl, rfl⟩
    go_wp2_with fail
    refine hK.out _ _ (by simp [go_sem, cP, *]) (fun hHeld => ?_)
    clear hK K
    try simp only [Act.put, sA, sB, sC]
    refine tkA 8 6 rfl ?_
    refine wpAnyH_done (by kernel_rfl) ?_ _
    go_wp2_with fail
    refine (CheckGas_y 0 h g _ hG).mono ?_
    rintro e xw1 ⟨rfl, hbx1⟩
    have zx1 := hbx1.size
    try simp at zx1
    obtain ⟨x1A0, x1A1, x1A2, x1A3, x1A4, x1A5, x1A6, x1A7⟩ : xw1.cell? ⟨w.heap.size, 0, none⟩ = some (.int .i64 1) ∧ xw1.cell? ⟨w.heap.size, 1, none⟩ = some (.int .i64 d) ∧ xw1.cell? ⟨w.heap.size, 2, none⟩ = some (.string fr) ∧ xw1.cell? ⟨w.heap.size, 3, none⟩ = some (.string tz) ∧ xw1.cell? ⟨w.heap.size, 4, none⟩ = some (.int .i64 0) ∧ xw1.cell? ⟨w.heap.size, 5, none⟩ = some (.int .i64 h) ∧ xw1.cell? ⟨w.heap.size, 6, none⟩ = some (.int .i64 am) ∧ xw1.cell? ⟨w.heap.size, 7, none⟩ = some (.bool pu) := by refine ⟨?_, ?_, ?_, ?_, ?_, ?_, ?_, ?_⟩ <;> (rw [bc1 hbx1]; simp [go_sem, cP, *])
    obtain ⟨x1o0, x1n0⟩ : w.heap.size < xw1.heap.size ∧ xw1.heap.size ≠ w.heap.size := by refine ⟨?_, ?_⟩ <;> omega
    have hBx1 : Below w.heap.size w xw1 := belA
    clear hbx1 
    go_wp2
    go_ret
    exact ⟨rfl, belA⟩
set_option maxHeartbeats 1000000 in
set_option maxRecDepth 100000 in
theorem alp_1F1 (d o h am : Int) (fr tz : ByteArray) (pu : Bool) (w : World) (hF : Hid (firE [rngE d 0 100000, rngE am 1 1000000000] = 0)) (hd : Hid (inB d 0 100000 = true)) (ha : Hid (inB am 1 1000000000 = true)) (hG : Hid (gasE 0 0 = 0)) : Calls Try.prog 95 #[.agg #[.int .i64 1, .int .i64 d, .string fr, .string fr, .int .i64 0, .int .i64 0, .int .i64 am, .bool pu]] w fun e w' => e = .returned (.int .i64 3) ∧ Below w.heap.size w w' := by
  have hd' := hd.out
  have ha' := ha.out
  go_enter Try.func95, Try.ntmps95
  go_upto_region 1 with (fail)
  refine wp_region_held_drew (S := (fun w' => w'.cell? ⟨w.heap.size, 0, none⟩ = some (.int .i64 1) ∧ w'.cell? ⟨w.heap.size, 1, none⟩ = some (.int .i64 d) ∧ w'.cell? ⟨w.heap.size, 2, none⟩ = some (.string fr) ∧ w'.cell? ⟨w.heap.size, 3, none⟩ = some (.string fr) ∧ w'.cell? ⟨w.heap.size, 4, none⟩ = some (.int .i64 0) ∧ w'.cell? ⟨w.heap.size, 5, none⟩ = some (.int .i64 0) ∧ w'.cell? ⟨w.heap.size, 6, none⟩ = some (.int .i64 am) ∧ w'.cell? ⟨w.heap.size, 7, none⟩ = some (.bool pu))) (by kernel_rfl) (by simp [go_sem, cP, *]) (fun hHeld => ?_)
  refine tkA 0 7 rfl ?_
  refine tkA 1 8 rfl ?_
  refine tkA 2 9 rfl ?_
  refine tkA 3 10 rfl ?_
  refine tkA 4 11 rfl ?_
  refine tkA 5 12 rfl ?_
  refine tkA 6 13 rfl ?_
  refine tkA 7 14 rfl ?_
  refine tkA 8 15 rfl ?_
  refine tkA 9 3 rfl ?_
  refine tkA 10 4 rfl ?_
  refine tkA 11 5 rfl ?_
  refine wpAnyH_done (by kernel_rfl) ?_ _
  go_upto_region 4 with (fail)
  refine wp_region_held_drew (S := (fun w' => w'.cell? ⟨w.heap.size, 0, none⟩ = some (.int .i64 1) ∧ w'.cell? ⟨w.heap.size, 1, none⟩ = some (.int .i64 d) ∧ w'.cell? ⟨w.heap.size, 2, none⟩ = some (.string fr) ∧ w'.cell? ⟨w.heap.size, 3, none⟩ = some (.string fr) ∧ w'.cell? ⟨w.heap.size, 4, none⟩ = some (.int .i64 0) ∧ w'.cell? ⟨w.heap.size, 5, none⟩ = some (.int .i64 0) ∧ w'.cell? ⟨w.heap.size, 6, none⟩ = some (.int .i64 am) ∧ w'.cell? ⟨w.heap.size, 7, none⟩ = some (.bool pu))) (by kernel_rfl) (by simp [go_sem, cP, *]) (fun hHeld => ?_)
  refine tkA 0 26 rfl ?_
  refine tkA 1 27 rfl ?_
  refine tkA 3 29 rfl ?_
  refine tkA 4 30 rfl ?_
  refine rdA 2 rfl (fun K hK => ?_)
  go_simp
  refine (cRange_any _ _ _ _).mono ?_
  rintro e wq ⟨rfl, rfl⟩
  go_wp2_with fail
  refine hK.out _ _ (by simp [go_sem, cP, *]) (fun hHeld => ?_)
  clear hK K
  try simp only [Act.put, sA, sB, sC]
  refine rdA 5 rfl (fun K hK => ?_)
  go_simp
  refine (cRange_any _ _ _ _).mono ?_
  rintro e wq ⟨rfl, rfl⟩
  go_wp2_with fail
  refine hK.out _ _ (by simp [go_sem, cP, *]) (fun hHeld => ?_)
  clear hK K
  try simp only [Act.put, sA, sB, sC]
  refine rdA 6 rfl (fun K hK => ?_)
  go_simp
  go_wp2_with fail
  refine hK.out _ _ (by simp [go_sem, cP, *]) (fun hHeld => ?_)
  clear hK K
  try simp only [Act.put, sA, sB, sC]
  refine rdA 7 rfl (fun K hK => ?_)
  go_simp
  refine (cF2y (rngE d 0 100000) (rngE am 1 1000000000) 0 _ _ hF (by simp [go_sem]) (by simp [go_sem])).mono ?_
  rintro e wq ⟨rfl, rfl⟩
  go_wp2_with fail
  refine hK.out _ _ (by simp [go_sem, cP, *]) (fun hHeld => ?_)
  clear hK K
  try simp only [Act.put, sA, sB, sC]
  refine tkA 8 6 rfl ?_
  refine wpAnyH_done (by kernel_rfl) ?_ _
  go_wp2_with fail
  refine (CheckGas_y 0 0 0 _ hG).mono ?_
  rintro e xw1 ⟨rfl, hbx1⟩
  have zx1 := hbx1.size
  try simp at zx1
  obtain ⟨x1A0, x1A1, x1A2, x1A3, x1A4, x1A5, x1A6, x1A7⟩ : xw1.cell? ⟨w.heap.size, 0, none⟩ = some (.int .i64 1) ∧ xw1.cell? ⟨w.heap.size, 1, none⟩ = some (.int .i64 d) ∧ xw1.cell? ⟨w.heap.size, 2, none⟩ = some (.string fr) ∧ xw1.cell? ⟨w.heap.size, 3, none⟩ = some (.string fr) ∧ xw1.cell? ⟨w.heap.size, 4, none⟩ = some (.int .i64 0) ∧ xw1.cell? ⟨w.heap.size, 5, none⟩ = some (.int .i64 0) ∧ xw1.cell? ⟨w.heap.size, 6, none⟩ = some (.int .i64 am) ∧ xw1.cell? ⟨w.heap.size, 7, none⟩ = some (.bool pu) := by refine ⟨?_, ?_, ?_, ?_, ?_, ?_, ?_, ?_⟩ <;> (rw [bc1 hbx1]; simp [go_sem, cP, *])
  obtain ⟨x1o0, x1n0⟩ : w.heap.size < xw1.heap.size ∧ xw1.heap.size ≠ w.heap.size := by refine ⟨?_, ?_⟩ <;> omega
  have hBx1 : Below w.heap.size w xw1 := belA
  clear hbx1 
  go_wp2
  go_ret
  exact ⟨rfl, belA⟩
set_option maxHeartbeats 1000000 in
set_option maxRecDepth 100000 in
theorem alp_1OKt (d o h am : Int) (fr tz : ByteArray) (pu : Bool) (w : World) (hF : Hid (firE [rngE d 0 100000, rngE am 1 1000000000] = 0)) (hd : Hid (inB d 0 100000 = true)) (ha : Hid (inB am 1 1000000000 = true)) (hG : Hid (gasE 0 0 = 0)) (hs : ¬ fr = tz) : Calls Try.prog 95 #[.agg #[.int .i64 1, .int .i64 d, .string fr, .string tz, .int .i64 0, .int .i64 0, .int .i64 am, .bool true]] w fun e w' => e = .returned (.int .i64 0) ∧ Below w.heap.size w w' := by
  have hd' := hd.out
  have ha' := ha.out
  have hq := neStr hs
  go_enter Try.func95, Try.ntmps95
  go_upto_region 1 with (fail)
  refine wp_region_held_drew (S := (fun w' => w'.cell? ⟨w.heap.size, 0, none⟩ = some (.int .i64 1) ∧ w'.cell? ⟨w.heap.size, 1, none⟩ = some (.int .i64 d) ∧ w'.cell? ⟨w.heap.size, 2, none⟩ = some (.string fr) ∧ w'.cell? ⟨w.heap.size, 3, none⟩ = some (.string tz) ∧ w'.cell? ⟨w.heap.size, 4, none⟩ = some (.int .i64 0) ∧ w'.cell? ⟨w.heap.size, 5, none⟩ = some (.int .i64 0) ∧ w'.cell? ⟨w.heap.size, 6, none⟩ = some (.int .i64 am) ∧ w'.cell? ⟨w.heap.size, 7, none⟩ = some (.bool true))) (by kernel_rfl) (by simp [go_sem, cP, *]) (fun hHeld => ?_)
  refine tkA 0 7 rfl ?_
  refine tkA 1 8 rfl ?_
  refine tkA 2 9 rfl ?_
  refine tkA 3 10 rfl ?_
  refine tkA 4 11 rfl ?_
  refine tkA 5 12 rfl ?_
  refine tkA 6 13 rfl ?_
  refine tkA 7 14 rfl ?_
  refine tkA 8 15 rfl ?_
  refine tkA 9 3 rfl ?_
  refine tkA 10 4 rfl ?_
  refine tkA 11 5 rfl ?_
  refine wpAnyH_done (by kernel_rfl) ?_ _
  go_upto_region 4 with (fail)
  refine wp_region_held_drew (S := (fun w' => w'.cell? ⟨w.heap.size, 0, none⟩ = some (.int .i64 1) ∧ w'.cell? ⟨w.heap.size, 1, none⟩ = some (.int .i64 d) ∧ w'.cell? ⟨w.heap.size, 2, none⟩ = some (.string fr) ∧ w'.cell? ⟨w.heap.size, 3, none⟩ = some (.string tz) ∧ w'.cell? ⟨w.heap.size, 4, none⟩ = some (.int .i64 0) ∧ w'.cell? ⟨w.heap.size, 5, none⟩ = some (.int .i64 0) ∧ w'.cell? ⟨w.heap.size, 6, none⟩ = some (.int .i64 am) ∧ w'.cell? ⟨w.heap.size, 7, none⟩ = some (.bool true))) (by kernel_rfl) (by simp [go_sem, cP, *]) (fun hHeld => ?_)
  refine tkA 0 26 rfl ?_
  refine tkA 1 27 rfl ?_
  refine tkA 3 29 rfl ?_
  refine tkA 4 30 rfl ?_
  refine rdA 2 rfl (fun K hK => ?_)
  go_simp
  refine (cRange_any _ _ _ _).mono ?_
  rintro e wq ⟨rfl, rfl⟩
  go_wp2_with fail
  refine hK.out _ _ (by simp [go_sem, cP, *]) (fun hHeld => ?_)
  clear hK K
  try simp only [Act.put, sA, sB, sC]
  refine rdA 5 rfl (fun K hK => ?_)
  go_simp
  refine (cRange_any _ _ _ _).mono ?_
  rintro e wq ⟨rfl, rfl⟩
  go_wp2_with fail
  refine hK.out _ _ (by simp [go_sem, cP, *]) (fun hHeld => ?_)
  clear hK K
  try simp only [Act.put, sA, sB, sC]
  refine rdA 6 rfl (fun K hK => ?_)
  go_simp
  go_wp2_with fail
  refine hK.out _ _ (by simp [go_sem, cP, *]) (fun hHeld => ?_)
  clear hK K
  try simp only [Act.put, sA, sB, sC]
  refine rdA 7 rfl (fun K hK => ?_)
  go_simp
  refine (cF2y (rngE d 0 100000) (rngE am 1 1000000000) 0 _ _ hF (by simp [go_sem]) (by simp [go_sem])).mono ?_
  rintro e wq ⟨rfl, rfl⟩
  go_wp2_with fail
  refine hK.out _ _ (by simp [go_sem, cP, *]) (fun hHeld => ?_)
  clear hK K
  try simp only [Act.put, sA, sB, sC]
  refine tkA 8 6 rfl ?_
  refine wpAnyH_done (by kernel_rfl) ?_ _
  go_wp2_with fail
  refine (CheckGas_y 0 0 0 _ hG).mono ?_
  rintro e xw1 ⟨rfl, hbx1⟩
  have zx1 := hbx1.size
  try simp at zx1
  obtain ⟨x1A0, x1A1, x1A2, x1A3, x1A4, x1A5, x1A6, x1A7⟩ : xw1.cell? ⟨w.heap.size, 0, none⟩ = some (.int .i64 1) ∧ xw1.cell? ⟨w.heap.size, 1, none⟩ = some (.int .i64 d) ∧ xw1.cell? ⟨w.heap.size, 2, none⟩ = some (.string fr) ∧ xw1.cell? ⟨w.heap.size, 3, none⟩ = some (.string tz) ∧ xw1.cell? ⟨w.heap.size, 4, none⟩ = some (.int .i64 0) ∧ xw1.cell? ⟨w.heap.size, 5, none⟩ = some (.int .i64 0) ∧ xw1.cell? ⟨w.heap.size, 6, none⟩ = some (.int .i64 am) ∧ xw1.cell? ⟨w.heap.size, 7, none⟩ = some (.bool true) := by refine ⟨?_, ?_, ?_, ?_, ?_, ?_, ?_, ?_⟩ <;> (rw [bc1 hbx1]; simp [go_sem, cP, *])
  obtain ⟨x1o0, x1n0⟩ : w.heap.size < xw1.heap.size ∧ xw1.heap.size ≠ w.heap.size := by refine ⟨?_, ?_⟩ <;> omega
  have hBx1 : Below w.heap.size w xw1 := belA
  clear hbx1 
  go_wp2
  go_ret
  exact ⟨rfl, belA⟩
set_option maxHeartbeats 1000000 in
set_option maxRecDepth 100000 in
theorem alp_1OKf (d o h am : Int) (fr tz : ByteArray) (pu : Bool) (w : World) (hF : Hid (firE [rngE d 0 100000, rngE am 1 1000000000] = 0)) (hd : Hid (inB d 0 100000 = true)) (ha : Hid (inB am 1 1000000000 = true)) (hG : Hid (gasE 0 0 = 0)) (hs : ¬ fr = tz) : Calls Try.prog 95 #[.agg #[.int .i64 1, .int .i64 d, .string fr, .string tz, .int .i64 0, .int .i64 0, .int .i64 am, .bool false]] w fun e w' => e = .returned (.int .i64 0) ∧ Below w.heap.size w w' := by
  have hd' := hd.out
  have ha' := ha.out
  have hq := neStr hs
  go_enter Try.func95, Try.ntmps95
  go_upto_region 1 with (fail)
  refine wp_region_held_drew (S := (fun w' => w'.cell? ⟨w.heap.size, 0, none⟩ = some (.int .i64 1) ∧ w'.cell? ⟨w.heap.size, 1, none⟩ = some (.int .i64 d) ∧ w'.cell? ⟨w.heap.size, 2, none⟩ = some (.string fr) ∧ w'.cell? ⟨w.heap.size, 3, none⟩ = some (.string tz) ∧ w'.cell? ⟨w.heap.size, 4, none⟩ = some (.int .i64 0) ∧ w'.cell? ⟨w.heap.size, 5, none⟩ = some (.int .i64 0) ∧ w'.cell? ⟨w.heap.size, 6, none⟩ = some (.int .i64 am) ∧ w'.cell? ⟨w.heap.size, 7, none⟩ = some (.bool false))) (by kernel_rfl) (by simp [go_sem, cP, *]) (fun hHeld => ?_)
  refine tkA 0 7 rfl ?_
  refine tkA 1 8 rfl ?_
  refine tkA 2 9 rfl ?_
  refine tkA 3 10 rfl ?_
  refine tkA 4 11 rfl ?_
  refine tkA 5 12 rfl ?_
  refine tkA 6 13 rfl ?_
  refine tkA 7 14 rfl ?_
  refine tkA 8 15 rfl ?_
  refine tkA 9 3 rfl ?_
  refine tkA 10 4 rfl ?_
  refine tkA 11 5 rfl ?_
  refine wpAnyH_done (by kernel_rfl) ?_ _
  go_upto_region 4 with (fail)
  refine wp_region_held_drew (S := (fun w' => w'.cell? ⟨w.heap.size, 0, none⟩ = some (.int .i64 1) ∧ w'.cell? ⟨w.heap.size, 1, none⟩ = some (.int .i64 d) ∧ w'.cell? ⟨w.heap.size, 2, none⟩ = some (.string fr) ∧ w'.cell? ⟨w.heap.size, 3, none⟩ = some (.string tz) ∧ w'.cell? ⟨w.heap.size, 4, none⟩ = some (.int .i64 0) ∧ w'.cell? ⟨w.heap.size, 5, none⟩ = some (.int .i64 0) ∧ w'.cell? ⟨w.heap.size, 6, none⟩ = some (.int .i64 am) ∧ w'.cell? ⟨w.heap.size, 7, none⟩ = some (.bool false))) (by kernel_rfl) (by simp [go_sem, cP, *]) (fun hHeld => ?_)
  refine tkA 0 26 rfl ?_
  refine tkA 1 27 rfl ?_
  refine tkA 3 29 rfl ?_
  refine tkA 4 30 rfl ?_
  refine rdA 2 rfl (fun K hK => ?_)
  go_simp
  refine (cRange_any _ _ _ _).mono ?_
  rintro e wq ⟨rfl, rfl⟩
  go_wp2_with fail
  refine hK.out _ _ (by simp [go_sem, cP, *]) (fun hHeld => ?_)
  clear hK K
  try simp only [Act.put, sA, sB, sC]
  refine rdA 5 rfl (fun K hK => ?_)
  go_simp
  refine (cRange_any _ _ _ _).mono ?_
  rintro e wq ⟨rfl, rfl⟩
  go_wp2_with fail
  refine hK.out _ _ (by simp [go_sem, cP, *]) (fun hHeld => ?_)
  clear hK K
  try simp only [Act.put, sA, sB, sC]
  refine rdA 6 rfl (fun K hK => ?_)
  go_simp
  go_wp2_with fail
  refine hK.out _ _ (by simp [go_sem, cP, *]) (fun hHeld => ?_)
  clear hK K
  try simp only [Act.put, sA, sB, sC]
  refine rdA 7 rfl (fun K hK => ?_)
  go_simp
  refine (cF2y (rngE d 0 100000) (rngE am 1 1000000000) 0 _ _ hF (by simp [go_sem]) (by simp [go_sem])).mono ?_
  rintro e wq ⟨rfl, rfl⟩
  go_wp2_with fail
  refine hK.out _ _ (by simp [go_sem, cP, *]) (fun hHeld => ?_)
  clear hK K
  try simp only [Act.put, sA, sB, sC]
  refine tkA 8 6 rfl ?_
  refine wpAnyH_done (by kernel_rfl) ?_ _
  go_wp2_with fail
  refine (CheckGas_y 0 0 0 _ hG).mono ?_
  rintro e xw1 ⟨rfl, hbx1⟩
  have zx1 := hbx1.size
  try simp at zx1
  obtain ⟨x1A0, x1A1, x1A2, x1A3, x1A4, x1A5, x1A6, x1A7⟩ : xw1.cell? ⟨w.heap.size, 0, none⟩ = some (.int .i64 1) ∧ xw1.cell? ⟨w.heap.size, 1, none⟩ = some (.int .i64 d) ∧ xw1.cell? ⟨w.heap.size, 2, none⟩ = some (.string fr) ∧ xw1.cell? ⟨w.heap.size, 3, none⟩ = some (.string tz) ∧ xw1.cell? ⟨w.heap.size, 4, none⟩ = some (.int .i64 0) ∧ xw1.cell? ⟨w.heap.size, 5, none⟩ = some (.int .i64 0) ∧ xw1.cell? ⟨w.heap.size, 6, none⟩ = some (.int .i64 am) ∧ xw1.cell? ⟨w.heap.size, 7, none⟩ = some (.bool false) := by refine ⟨?_, ?_, ?_, ?_, ?_, ?_, ?_, ?_⟩ <;> (rw [bc1 hbx1]; simp [go_sem, cP, *])
  obtain ⟨x1o0, x1n0⟩ : w.heap.size < xw1.heap.size ∧ xw1.heap.size ≠ w.heap.size := by refine ⟨?_, ?_⟩ <;> omega
  have hBx1 : Below w.heap.size w xw1 := belA
  clear hbx1 
  go_wp2
  go_ret
  exact ⟨rfl, belA⟩
set_option maxHeartbeats 1000000 in
set_option maxRecDepth 100000 in
theorem alp_2R1 (d o h am : Int) (fr tz : ByteArray) (pu : Bool) (w : World) (hF : Hid (firE [rngE d 0 100000, rngE am 1 1000000000] = 2)) (hd : Hid (inB d 0 100000 = false)) : Calls Try.prog 95 #[.agg #[.int .i64 2, .int .i64 d, .string fr, .string tz, .int .i64 o, .int .i64 h, .int .i64 am, .bool pu]] w fun e w' => e = .returned (.int .i64 2) ∧ Below w.heap.size w w' := by
  have hd' := hd.out
  go_enter Try.func95, Try.ntmps95
  go_upto_region 1 with (fail)
  refine wp_region_held_drew (S := (fun w' => w'.cell? ⟨w.heap.size, 0, none⟩ = some (.int .i64 2) ∧ w'.cell? ⟨w.heap.size, 1, none⟩ = some (.int .i64 d) ∧ w'.cell? ⟨w.heap.size, 2, none⟩ = some (.string fr) ∧ w'.cell? ⟨w.heap.size, 3, none⟩ = some (.string tz) ∧ w'.cell? ⟨w.heap.size, 4, none⟩ = some (.int .i64 o) ∧ w'.cell? ⟨w.heap.size, 5, none⟩ = some (.int .i64 h) ∧ w'.cell? ⟨w.heap.size, 6, none⟩ = some (.int .i64 am) ∧ w'.cell? ⟨w.heap.size, 7, none⟩ = some (.bool pu))) (by kernel_rfl) (by simp [go_sem, cP, *]) (fun hHeld => ?_)
  refine tkA 0 7 rfl ?_
  refine tkA 1 8 rfl ?_
  refine tkA 2 9 rfl ?_
  refine tkA 3 10 rfl ?_
  refine tkA 4 11 rfl ?_
  refine tkA 5 12 rfl ?_
  refine tkA 6 13 rfl ?_
  refine tkA 7 14 rfl ?_
  refine tkA 8 15 rfl ?_
  refine tkA 9 3 rfl ?_
  refine tkA 10 4 rfl ?_
  refine tkA 11 5 rfl ?_
  refine wpAnyH_done (by kernel_rfl) ?_ _
  go_upto_region 4 with (fail)
  refine wp_region_held_drew (S := (fun w' => w'.cell? ⟨w.heap.size, 0, none⟩ = some (.int .i64 2) ∧ w'.cell? ⟨w.heap.size, 1, none⟩ = some (.int .i64 d) ∧ w'.cell? ⟨w.heap.size, 2, none⟩ = some (.string fr) ∧ w'.cell? ⟨w.heap.size, 3, none⟩ = some (.string tz) ∧ w'.cell? ⟨w.heap.size, 4, none⟩ = some (.int .i64 o) ∧ w'.cell? ⟨w.heap.size, 5, none⟩ = some (.int .i64 h) ∧ w'.cell? ⟨w.heap.size, 6, none⟩ = some (.int .i64 am) ∧ w'.cell? ⟨w.heap.size, 7, none⟩ = some (.bool pu))) (by kernel_rfl) (by simp [go_sem, cP, *]) (fun hHeld => ?_)
  refine tkA 0 26 rfl ?_
  refine tkA 1 27 rfl ?_
  refine tkA 3 29 rfl ?_
  refine tkA 4 30 rfl ?_
  refine rdA 2 rfl (fun K hK => ?_)
  go_simp
  refine (cRange_any _ _ _ _).mono ?_
  rintro e wq ⟨rfl, rfl⟩
  go_wp2_with fail
  refine hK.out _ _ (by simp [go_sem, cP, *]) (fun hHeld => ?_)
  clear hK K
  try simp only [Act.put, sA, sB, sC]
  refine rdA 5 rfl (fun K hK => ?_)
  go_simp
  refine (cRange_any _ _ _ _).mono ?_
  rintro e wq ⟨rfl, rfl⟩
  go_wp2_with fail
  refine hK.out _ _ (by simp [go_sem, cP, *]) (fun hHeld => ?_)
  clear hK K
  try simp only [Act.put, sA, sB, sC]
  refine rdA 6 rfl (fun K hK => ?_)
  go_simp
  go_wp2_with fail
  refine hK.out _ _ (by simp [go_sem, cP, *]) (fun hHeld => ?_)
  clear hK K
  try simp only [Act.put, sA, sB, sC]
  refine rdA 7 rfl (fun K hK => ?_)
  go_simp
  refine (cF2y (rngE d 0 100000) (rngE am 1 1000000000) 2 _ _ hF (by simp [go_sem]) (by simp [go_sem])).mono ?_
  rintro e wq ⟨rfl, rfl⟩
  go_wp2_with fail
  refine hK.out _ _ (by simp [go_sem, cP, *]) (fun hHeld => ?_)
  clear hK K
  try simp only [Act.put, sA, sB, sC]
  refine tkA 8 6 rfl ?_
  refine wpAnyH_done (by kernel_rfl) ?_ _
  go_wp2
  go_ret
  exact ⟨rfl, belA⟩
set_option maxHeartbeats 1000000 in
set_option maxRecDepth 100000 in
theorem alp_2R2 (d o h am : Int) (fr tz : ByteArray) (pu : Bool) (w : World) (hF : Hid (firE [rngE d 0 100000, rngE am 1 1000000000] = 2)) (hd : Hid (inB d 0 100000 = true)) (ha : Hid (inB am 1 1000000000 = false)) : Calls Try.prog 95 #[.agg #[.int .i64 2, .int .i64 d, .string fr, .string tz, .int .i64 o, .int .i64 h, .int .i64 am, .bool pu]] w fun e w' => e = .returned (.int .i64 2) ∧ Below w.heap.size w w' := by
  have hd' := hd.out
  have ha' := ha.out
  go_enter Try.func95, Try.ntmps95
  go_upto_region 1 with (fail)
  refine wp_region_held_drew (S := (fun w' => w'.cell? ⟨w.heap.size, 0, none⟩ = some (.int .i64 2) ∧ w'.cell? ⟨w.heap.size, 1, none⟩ = some (.int .i64 d) ∧ w'.cell? ⟨w.heap.size, 2, none⟩ = some (.string fr) ∧ w'.cell? ⟨w.heap.size, 3, none⟩ = some (.string tz) ∧ w'.cell? ⟨w.heap.size, 4, none⟩ = some (.int .i64 o) ∧ w'.cell? ⟨w.heap.size, 5, none⟩ = some (.int .i64 h) ∧ w'.cell? ⟨w.heap.size, 6, none⟩ = some (.int .i64 am) ∧ w'.cell? ⟨w.heap.size, 7, none⟩ = some (.bool pu))) (by kernel_rfl) (by simp [go_sem, cP, *]) (fun hHeld => ?_)
  refine tkA 0 7 rfl ?_
  refine tkA 1 8 rfl ?_
  refine tkA 2 9 rfl ?_
  refine tkA 3 10 rfl ?_
  refine tkA 4 11 rfl ?_
  refine tkA 5 12 rfl ?_
  refine tkA 6 13 rfl ?_
  refine tkA 7 14 rfl ?_
  refine tkA 8 15 rfl ?_
  refine tkA 9 3 rfl ?_
  refine tkA 10 4 rfl ?_
  refine tkA 11 5 rfl ?_
  refine wpAnyH_done (by kernel_rfl) ?_ _
  go_upto_region 4 with (fail)
  refine wp_region_held_drew (S := (fun w' => w'.cell? ⟨w.heap.size, 0, none⟩ = some (.int .i64 2) ∧ w'.cell? ⟨w.heap.size, 1, none⟩ = some (.int .i64 d) ∧ w'.cell? ⟨w.heap.size, 2, none⟩ = some (.string fr) ∧ w'.cell? ⟨w.heap.size, 3, none⟩ = some (.string tz) ∧ w'.cell? ⟨w.heap.size, 4, none⟩ = some (.int .i64 o) ∧ w'.cell? ⟨w.heap.size, 5, none⟩ = some (.int .i64 h) ∧ w'.cell? ⟨w.heap.size, 6, none⟩ = some (.int .i64 am) ∧ w'.cell? ⟨w.heap.size, 7, none⟩ = some (.bool pu))) (by kernel_rfl) (by simp [go_sem, cP, *]) (fun hHeld => ?_)
  refine tkA 0 26 rfl ?_
  refine tkA 1 27 rfl ?_
  refine tkA 3 29 rfl ?_
  refine tkA 4 30 rfl ?_
  refine rdA 2 rfl (fun K hK => ?_)
  go_simp
  refine (cRange_any _ _ _ _).mono ?_
  rintro e wq ⟨rfl, rfl⟩
  go_wp2_with fail
  refine hK.out _ _ (by simp [go_sem, cP, *]) (fun hHeld => ?_)
  clear hK K
  try simp only [Act.put, sA, sB, sC]
  refine rdA 5 rfl (fun K hK => ?_)
  go_simp
  refine (cRange_any _ _ _ _).mono ?_
  rintro e wq ⟨rfl, rfl⟩
  go_wp2_with fail
  refine hK.out _ _ (by simp [go_sem, cP, *]) (fun hHeld => ?_)
  clear hK K
  try simp only [Act.put, sA, sB, sC]
  refine rdA 6 rfl (fun K hK => ?_)
  go_simp
  go_wp2_with fail
  refine hK.out _ _ (by simp [go_sem, cP, *]) (fun hHeld => ?_)
  clear hK K
  try simp only [Act.put, sA, sB, sC]
  refine rdA 7 rfl (fun K hK => ?_)
  go_simp
  refine (cF2y (rngE d 0 100000) (rngE am 1 1000000000) 2 _ _ hF (by simp [go_sem]) (by simp [go_sem])).mono ?_
  rintro e wq ⟨rfl, rfl⟩
  go_wp2_with fail
  refine hK.out _ _ (by simp [go_sem, cP, *]) (fun hHeld => ?_)
  clear hK K
  try simp only [Act.put, sA, sB, sC]
  refine tkA 8 6 rfl ?_
  refine wpAnyH_done (by kernel_rfl) ?_ _
  go_wp2
  go_ret
  exact ⟨rfl, belA⟩
set_option maxHeartbeats 1000000 in
set_option maxRecDepth 100000 in
theorem alp_2Z1 (d o h am : Int) (fr tz : ByteArray) (pu : Bool) (w : World) (hF : Hid (firE [rngE d 0 100000, rngE am 1 1000000000] = 0)) (hd : Hid (inB d 0 100000 = true)) (ha : Hid (inB am 1 1000000000 = true)) (g : Int) (hG : Hid (gasE o h = g)) (ho : ¬ o = 0) : Calls Try.prog 95 #[.agg #[.int .i64 2, .int .i64 d, .string fr, .string tz, .int .i64 o, .int .i64 h, .int .i64 am, .bool pu]] w fun e w' => e = .returned (.int .i64 2) ∧ Below w.heap.size w w' := by
  have hd' := hd.out
  have ha' := ha.out
  have ho2 : (o == 0) = false := by simpa using ho
  rcases ez2b g with ⟨hg0, hg⟩ | ⟨hg0, hg⟩
  · go_enter Try.func95, Try.ntmps95
    go_upto_region 1 with (fail)
    refine wp_region_held_drew (S := (fun w' => w'.cell? ⟨w.heap.size, 0, none⟩ = some (.int .i64 2) ∧ w'.cell? ⟨w.heap.size, 1, none⟩ = some (.int .i64 d) ∧ w'.cell? ⟨w.heap.size, 2, none⟩ = some (.string fr) ∧ w'.cell? ⟨w.heap.size, 3, none⟩ = some (.string tz) ∧ w'.cell? ⟨w.heap.size, 4, none⟩ = some (.int .i64 o) ∧ w'.cell? ⟨w.heap.size, 5, none⟩ = some (.int .i64 h) ∧ w'.cell? ⟨w.heap.size, 6, none⟩ = some (.int .i64 am) ∧ w'.cell? ⟨w.heap.size, 7, none⟩ = some (.bool pu))) (by kernel_rfl) (by simp [go_sem, cP, *]) (fun hHeld => ?_)
    refine tkA 0 7 rfl ?_
    refine tkA 1 8 rfl ?_
    refine tkA 2 9 rfl ?_
    refine tkA 3 10 rfl ?_
    refine tkA 4 11 rfl ?_
    refine tkA 5 12 rfl ?_
    refine tkA 6 13 rfl ?_
    refine tkA 7 14 rfl ?_
    refine tkA 8 15 rfl ?_
    refine tkA 9 3 rfl ?_
    refine tkA 10 4 rfl ?_
    refine tkA 11 5 rfl ?_
    refine wpAnyH_done (by kernel_rfl) ?_ _
    go_upto_region 4 with (fail)
    refine wp_region_held_drew (S := (fun w' => w'.cell? ⟨w.heap.size, 0, none⟩ = some (.int .i64 2) ∧ w'.cell? ⟨w.heap.size, 1, none⟩ = some (.int .i64 d) ∧ w'.cell? ⟨w.heap.size, 2, none⟩ = some (.string fr) ∧ w'.cell? ⟨w.heap.size, 3, none⟩ = some (.string tz) ∧ w'.cell? ⟨w.heap.size, 4, none⟩ = some (.int .i64 o) ∧ w'.cell? ⟨w.heap.size, 5, none⟩ = some (.int .i64 h) ∧ w'.cell? ⟨w.heap.size, 6, none⟩ = some (.int .i64 am) ∧ w'.cell? ⟨w.heap.size, 7, none⟩ = some (.bool pu))) (by kernel_rfl) (by simp [go_sem, cP, *]) (fun hHeld => ?_)
    refine tkA 0 26 rfl ?_
    refine tkA 1 27 rfl ?_
    refine tkA 3 29 rfl ?_
    refine tkA 4 30 rfl ?_
    refine rdA 2 rfl (fun K hK => ?_)
    go_simp
    refine (cRange_any _ _ _ _).mono ?_
    rintro e wq ⟨rfl, rfl⟩
    go_wp2_with fail
    refine hK.out _ _ (by simp [go_sem, cP, *]) (fun hHeld => ?_)
    clear hK K
    try simp only [Act.put, sA, sB, sC]
    refine rdA 5 rfl (fun K hK => ?_)
    go_simp
    refine (cRange_any _ _ _ _).mono ?_
    rintro e wq ⟨rfl, rfl⟩
    go_wp2_with fail
    refine hK.out _ _ (by simp [go_sem, cP, *]) (fun hHeld => ?_)
    clear hK K
    try simp only [Act.put, sA, sB, sC]
    refine rdA 6 rfl (fun K hK => ?_)
    go_simp
    go_wp2_with fail
    refine hK.out _ _ (by simp [go_sem, cP, *]) (fun hHeld => ?_)
    clear hK K
    try simp only [Act.put, sA, sB, sC]
    refine rdA 7 rfl (fun K hK => ?_)
    go_simp
    refine (cF2y (rngE d 0 100000) (rngE am 1 1000000000) 0 _ _ hF (by simp [go_sem]) (by simp [go_sem])).mono ?_
    rintro e wq ⟨rfl, rfl⟩
    go_wp2_with fail
    refine hK.out _ _ (by simp [go_sem, cP, *]) (fun hHeld => ?_)
    clear hK K
    try simp only [Act.put, sA, sB, sC]
    refine tkA 8 6 rfl ?_
    refine wpAnyH_done (by kernel_rfl) ?_ _
    go_wp2_with fail
    refine (CheckGas_y o h g _ hG).mono ?_
    rintro e xw1 ⟨rfl, hbx1⟩
    have zx1 := hbx1.size
    try simp at zx1
    obtain ⟨x1A0, x1A1, x1A2, x1A3, x1A4, x1A5, x1A6, x1A7⟩ : xw1.cell? ⟨w.heap.size, 0, none⟩ = some (.int .i64 2) ∧ xw1.cell? ⟨w.heap.size, 1, none⟩ = some (.int .i64 d) ∧ xw1.cell? ⟨w.heap.size, 2, none⟩ = some (.string fr) ∧ xw1.cell? ⟨w.heap.size, 3, none⟩ = some (.string tz) ∧ xw1.cell? ⟨w.heap.size, 4, none⟩ = some (.int .i64 o) ∧ xw1.cell? ⟨w.heap.size, 5, none⟩ = some (.int .i64 h) ∧ xw1.cell? ⟨w.heap.size, 6, none⟩ = some (.int .i64 am) ∧ xw1.cell? ⟨w.heap.size, 7, none⟩ = some (.bool pu) := by refine ⟨?_, ?_, ?_, ?_, ?_, ?_, ?_, ?_⟩ <;> (rw [bc1 hbx1]; simp [go_sem, cP, *])
    obtain ⟨x1o0, x1n0⟩ : w.heap.size < xw1.heap.size ∧ xw1.heap.size ≠ w.heap.size := by refine ⟨?_, ?_⟩ <;> omega
    have hBx1 : Below w.heap.size w xw1 := belA
    clear hbx1 
    go_wp2
    go_ret
    exact ⟨rfl, belA⟩
  · go_enter Try.func95, Try.ntmps95
    go_upto_region 1 with (fail)
    refine wp_region_held_drew (S := (fun w' => w'.cell? ⟨w.heap.size, 0, none⟩ = some (.int .i64 2) ∧ w'.cell? ⟨w.heap.size, 1, none⟩ = some (.int .i64 d) ∧ w'.cell? ⟨w.heap.size, 2, none⟩ = some (.string fr) ∧ w'.cell? ⟨w.heap.size, 3, none⟩ = some (.string tz) ∧ w'.cell? ⟨w.heap.size, 4, none⟩ = some (.int .i64 o) ∧ w'.cell? ⟨w.heap.size, 5, none⟩ = some (.int .i64 h) ∧ w'.cell? ⟨w.heap.size, 6, none⟩ = some (.int .i64 am) ∧ w'.cell? ⟨w.heap.size, 7, none⟩ = some (.bool pu))) (by kernel_rfl) (by simp [go_sem, cP, *]) (fun hHeld => ?_)
    refine tkA 0 7 rfl ?_
    refine tkA 1 8 rfl ?_
    refine tkA 2 9 rfl ?_
    refine tkA 3 10 rfl ?_
    refine tkA 4 11 rfl ?_
    refine tkA 5 12 rfl ?_
    refine tkA 6 13 rfl ?_
    refine tkA 7 14 rfl ?_
    refine tkA 8 15 rfl ?_
    refine tkA 9 3 rfl ?_
    refine tkA 10 4 rfl ?_
    refine tkA 11 5 rfl ?_
    refine wpAnyH_done (by kernel_rfl) ?_ _
    go_upto_region 4 with (fail)
    refine wp_region_held_drew (S := (fun w' => w'.cell? ⟨w.heap.size, 0, none⟩ = some (.int .i64 2) ∧ w'.cell? ⟨w.heap.size, 1, none⟩ = some (.int .i64 d) ∧ w'.cell? ⟨w.heap.size, 2, none⟩ = some (.string fr) ∧ w'.cell? ⟨w.heap.size, 3, none⟩ = some (.string tz) ∧ w'.cell? ⟨w.heap.size, 4, none⟩ = some (.int .i64 o) ∧ w'.cell? ⟨w.heap.size, 5, none⟩ = some (.int .i64 h) ∧ w'.cell? ⟨w.heap.size, 6, none⟩ = some (.int .i64 am) ∧ w'.cell? ⟨w.heap.size, 7, none⟩ = some (.bool pu))) (by kernel_rfl) (by simp [go_sem, cP, *]) (fun hHeld => ?_)
    refine tkA 0 26 rfl ?_
    refine tkA 1 27 rfl ?_
    refine tkA 3 29 rfl ?_
    refine tkA 4 30 rfl ?_
    refine rdA 2 rfl (fun K hK => ?_)
    go_simp
    refine (cRange_any _ _ _ _).mono ?_
    rintro e wq ⟨rfl, rfl⟩
    go_wp2_with fail
    refine hK.out _ _ (by simp [go_sem, cP, *]) (fun hHeld => ?_)
    clear hK K
    try simp only [Act.put, sA, sB, sC]
    refine rdA 5 rfl (fun K hK => ?_)
    go_simp
    refine (cRange_any _ _ _ _).mono ?_
    rintro e wq ⟨rfl, rfl⟩
    go_wp2_with fail
    refine hK.out _ _ (by simp [go_sem, cP, *]) (fun hHeld => ?_)
    clear hK K
    try simp only [Act.put, sA, sB, sC]
    refine rdA 6 rfl (fun K hK => ?_)
    go_simp
    go_wp2_with fail
    refine hK.out _ _ (by simp [go_sem, cP, *]) (fun hHeld => ?_)
    clear hK K
    try simp only [Act.put, sA, sB, sC]
    refine rdA 7 rfl (fun K hK => ?_)
    go_simp
    refine (cF2y (rngE d 0 100000) (rngE am 1 1000000000) 0 _ _ hF (by simp [go_sem]) (by simp [go_sem])).mono ?_
    rintro e wq ⟨rfl, rfl⟩
    go_wp2_with fail
    refine hK.out _ _ (by simp [go_sem, cP, *]) (fun hHeld => ?_)
    clear hK K
    try simp only [Act.put, sA, sB, sC]
    refine tkA 8 6 rfl ?_
    refine wpAnyH_done (by kernel_rfl) ?_ _
    go_wp2_with fail
    refine (CheckGas_y o h g _ hG).mono ?_
    rintro e xw1 ⟨rfl, hbx1⟩
    have zx1 := hbx1.size
    try simp at zx1
    obtain ⟨x1A0, x1A1, x1A2, x1A3, x1A4, x1A5, x1A6, x1A7⟩ : xw1.cell? ⟨w.heap.size, 0, none⟩ = some (.int .i64 2) ∧ xw1.cell? ⟨w.heap.size, 1, none⟩ = some (.int .i64 d) ∧ xw1.cell? ⟨w.heap.size, 2, none⟩ = some (.string fr) ∧ xw1.cell? ⟨w.heap.size, 3, none⟩ = some (.string tz) ∧ xw1.cell? ⟨w.heap.size, 4, none⟩ = some (.int .i64 o) ∧ xw1.cell? ⟨w.heap.size, 5, none⟩ = some (.int .i64 h) ∧ xw1.cell? ⟨w.heap.size, 6, none⟩ = some (.int .i64 am) ∧ xw1.cell? ⟨w.heap.size, 7, none⟩ = some (.bool pu) := by refine ⟨?_, ?_, ?_, ?_, ?_, ?_, ?_, ?_⟩ <;> (rw [bc1 hbx1]; simp [go_sem, cP, *])
    obtain ⟨x1o0, x1n0⟩ : w.heap.size < xw1.heap.size ∧ xw1.heap.size ≠ w.heap.size := by refine ⟨?_, ?_⟩ <;> omega
    have hBx1 : Below w.heap.size w xw1 := belA
    clear hbx1 
    go_wp2
    go_ret
    exact ⟨rfl, belA⟩
set_option maxHeartbeats 1000000 in
set_option maxRecDepth 100000 in
theorem alp_2Z2 (d o h am : Int) (fr tz : ByteArray) (pu : Bool) (w : World) (hF : Hid (firE [rngE d 0 100000, rngE am 1 1000000000] = 0)) (hd : Hid (inB d 0 100000 = true)) (ha : Hid (inB am 1 1000000000 = true)) (g : Int) (hG : Hid (gasE 0 h = g)) (ho : ¬ h = 0) : Calls Try.prog 95 #[.agg #[.int .i64 2, .int .i64 d, .string fr, .string tz, .int .i64 0, .int .i64 h, .int .i64 am, .bool pu]] w fun e w' => e = .returned (.int .i64 2) ∧ Below w.heap.size w w' := by
  have hd' := hd.out
  have ha' := ha.out
  have ho2 : (h == 0) = false := by simpa using ho
  rcases ez2b g with ⟨hg0, hg⟩ | ⟨hg0, hg⟩
  · go_enter Try.func95, Try.ntmps95
    go_upto_region 1 with (fail)
    refine wp_region_held_drew (S := (fun w' => w'.cell? ⟨w.heap.size, 0, none⟩ = some (.int .i64 2) ∧ w'.cell? ⟨w.heap.size, 1, none⟩ = some (.int .i64 d) ∧ w'.cell? ⟨w.heap.size, 2, none⟩ = some (.string fr) ∧ w'.cell? ⟨w.heap.size, 3, none⟩ = some (.string tz) ∧ w'.cell? ⟨w.heap.size, 4, none⟩ = some (.int .i64 0) ∧ w'.cell? ⟨w.heap.size, 5, none⟩ = some (.int .i64 h) ∧ w'.cell? ⟨w.heap.size, 6, none⟩ = some (.int .i64 am) ∧ w'.cell? ⟨w.heap.size, 7, none⟩ = some (.bool pu))) (by kernel_rfl) (by simp [go_sem, cP, *]) (fun hHeld => ?_)
    refine tkA 0 7 rfl ?_
    refine tkA 1 8 rfl ?_
    refine tkA 2 9 rfl ?_
    refine tkA 3 10 rfl ?_
    refine tkA 4 11 rfl ?_
    refine tkA 5 12 rfl ?_
    refine tkA 6 13 rfl ?_
    refine tkA 7 14 rfl ?_
    refine tkA 8 15 rfl ?_
    refine tkA 9 3 rfl ?_
    refine tkA 10 4 rfl ?_
    refine tkA 11 5 rfl ?_
    refine wpAnyH_done (by kernel_rfl) ?_ _
    go_upto_region 4 with (fail)
    refine wp_region_held_drew (S := (fun w' => w'.cell? ⟨w.heap.size, 0, none⟩ = some (.int .i64 2) ∧ w'.cell? ⟨w.heap.size, 1, none⟩ = some (.int .i64 d) ∧ w'.cell? ⟨w.heap.size, 2, none⟩ = some (.string fr) ∧ w'.cell? ⟨w.heap.size, 3, none⟩ = some (.string tz) ∧ w'.cell? ⟨w.heap.size, 4, none⟩ = some (.int .i64 0) ∧ w'.cell? ⟨w.heap.size, 5, none⟩ = some (.int .i64 h) ∧ w'.cell? ⟨w.heap.size, 6, none⟩ = some (.int .i64 am) ∧ w'.cell? ⟨w.heap.size, 7, none⟩ = some (.bool pu))) (by kernel_rfl) (by simp [go_sem, cP, *]) (fun hHeld => ?_)
    refine tkA 0 26 rfl ?_
    refine tkA 1 27 rfl ?_
    refine tkA 3 29 rfl ?_
    refine tkA 4 30 rfl ?_
    refine rdA 2 rfl (fun K hK => ?_)
    go_simp
    refine (cRange_any _ _ _ _).mono ?_
    rintro e wq ⟨rfl, rfl⟩
    go_wp2_with fail
    refine hK.out _ _ (by simp [go_sem, cP, *]) (fun hHeld => ?_)
    clear hK K
    try simp only [Act.put, sA, sB, sC]
    refine rdA 5 rfl (fun K hK => ?_)
    go_simp
    refine (cRange_any _ _ _ _).mono ?_
    rintro e wq ⟨rfl, rfl⟩
    go_wp2_with fail
    refine hK.out _ _ (by simp [go_sem, cP, *]) (fun hHeld => ?_)
    clear hK K
    try simp only [Act.put, sA, sB, sC]
    refine rdA 6 rfl (fun K hK => ?_)
    go_simp
    go_wp2_with fail
    refine hK.out _ _ (by simp [go_sem, cP, *]) (fun hHeld => ?_)
    clear hK K
    try simp only [Act.put, sA, sB, sC]
    refine rdA 7 rfl (fun K hK => ?_)
    go_simp
    refine (cF2y (rngE d 0 100000) (rngE am 1 1000000000) 0 _ _ hF (by simp [go_sem]) (by simp [go_sem])).mono ?_
    rintro e wq ⟨rfl, rfl⟩
    go_wp2_with fail
    refine hK.out _ _ (by simp [go_sem, cP, *]) (fun hHeld => ?_)
    clear hK K
    try simp only [Act.put, sA, sB, sC]
    refine tkA 8 6 rfl ?_
    refine wpAnyH_done (by kernel_rfl) ?_ _
    go_wp2_with fail
    refine (CheckGas_y 0 h g _ hG).mono ?_
    rintro e xw1 ⟨rfl, hbx1⟩
    have zx1 := hbx1.size
    try simp at zx1
    obtain ⟨x1A0, x1A1, x1A2, x1A3, x1A4, x1A5, x1A6, x1A7⟩ : xw1.cell? ⟨w.heap.size, 0, none⟩ = some (.int .i64 2) ∧ xw1.cell? ⟨w.heap.size, 1, none⟩ = some (.int .i64 d) ∧ xw1.cell? ⟨w.heap.size, 2, none⟩ = some (.string fr) ∧ xw1.cell? ⟨w.heap.size, 3, none⟩ = some (.string tz) ∧ xw1.cell? ⟨w.heap.size, 4, none⟩ = some (.int .i64 0) ∧ xw1.cell? ⟨w.heap.size, 5, none⟩ = some (.int .i64 h) ∧ xw1.cell? ⟨w.heap.size, 6, none⟩ = some (.int .i64 am) ∧ xw1.cell? ⟨w.heap.size, 7, none⟩ = some (.bool pu) := by refine ⟨?_, ?_, ?_, ?_, ?_, ?_, ?_, ?_⟩ <;> (rw [bc1 hbx1]; simp [go_sem, cP, *])
    obtain ⟨x1o0, x1n0⟩ : w.heap.size < xw1.heap.size ∧ xw1.heap.size ≠ w.heap.size := by refine ⟨?_, ?_⟩ <;> omega
    have hBx1 : Below w.heap.size w xw1 := belA
    clear hbx1 
    go_wp2
    go_ret
    exact ⟨rfl, belA⟩
  · go_enter Try.func95, Try.ntmps95
    go_upto_region 1 with (fail)
    refine wp_region_held_drew (S := (fun w' => w'.cell? ⟨w.heap.size, 0, none⟩ = some (.int .i64 2) ∧ w'.cell? ⟨w.heap.size, 1, none⟩ = some (.int .i64 d) ∧ w'.cell? ⟨w.heap.size, 2, none⟩ = some (.string fr) ∧ w'.cell? ⟨w.heap.size, 3, none⟩ = some (.string tz) ∧ w'.cell? ⟨w.heap.size, 4, none⟩ = some (.int .i64 0) ∧ w'.cell? ⟨w.heap.size, 5, none⟩ = some (.int .i64 h) ∧ w'.cell? ⟨w.heap.size, 6, none⟩ = some (.int .i64 am) ∧ w'.cell? ⟨w.heap.size, 7, none⟩ = some (.bool pu))) (by kernel_rfl) (by simp [go_sem, cP, *]) (fun hHeld => ?_)
    refine tkA 0 7 rfl ?_
    refine tkA 1 8 rfl ?_
    refine tkA 2 9 rfl ?_
    refine tkA 3 10 rfl ?_
    refine tkA 4 11 rfl ?_
    refine tkA 5 12 rfl ?_
    refine tkA 6 13 rfl ?_
    refine tkA 7 14 rfl ?_
    refine tkA 8 15 rfl ?_
    refine tkA 9 3 rfl ?_
    refine tkA 10 4 rfl ?_
    refine tkA 11 5 rfl ?_
    refine wpAnyH_done (by kernel_rfl) ?_ _
    go_upto_region 4 with (fail)
    refine wp_region_held_drew (S := (fun w' => w'.cell? ⟨w.heap.size, 0, none⟩ = some (.int .i64 2) ∧ w'.cell? ⟨w.heap.size, 1, none⟩ = some (.int .i64 d) ∧ w'.cell? ⟨w.heap.size, 2, none⟩ = some (.string fr) ∧ w'.cell? ⟨w.heap.size, 3, none⟩ = some (.string tz) ∧ w'.cell? ⟨w.heap.size, 4, none⟩ = some (.int .i64 0) ∧ w'.cell? ⟨w.heap.size, 5, none⟩ = some (.int .i64 h) ∧ w'.cell? ⟨w.heap.size, 6, none⟩ = some (.int .i64 am) ∧ w'.cell? ⟨w.heap.size, 7, none⟩ = some (.bool pu))) (by kernel_rfl) (by simp [go_sem, cP, *]) (fun hHeld => ?_)
    refine tkA 0 26 rfl ?_
    refine tkA 1 27 rfl ?_
    refine tkA 3 29 rfl ?_
    refine tkA 4 30 rfl ?_
    refine rdA 2 rfl (fun K hK => ?_)
    go_simp
    refine (cRange_any _ _ _ _).mono ?_
    rintro e wq ⟨rfl, rfl⟩
    go_wp2_with fail
    refine hK.out _ _ (by simp [go_sem, cP, *]) (fun hHeld => ?_)
    clear hK K
    try simp only [Act.put, sA, sB, sC]
    refine rdA 5 rfl (fun K hK => ?_)
    go_simp
    refine (cRange_any _ _ _ _).mono ?_
    rintro e wq ⟨rfl, rfl⟩
    go_wp2_with fail
    refine hK.out _ _ (by simp [go_sem, cP, *]) (fun hHeld => ?_)
    clear hK K
    try simp only [Act.put, sA, sB, sC]
    refine rdA 6 rfl (fun K hK => ?_)
    go_simp
    go_wp2_with fail
    refine hK.out _ _ (by simp [go_sem, cP, *]) (fun hHeld => ?_)
    clear hK K
    try simp only [Act.put, sA, sB, sC]
    refine rdA 7 rfl (fun K hK => ?_)
    go_simp
    refine (cF2y (rngE d 0 100000) (rngE am 1 1000000000) 0 _ _ hF (by simp [go_sem]) (by simp [go_sem])).mono ?_
    rintro e wq ⟨rfl, rfl⟩
    go_wp2_with fail
    refine hK.out _ _ (by simp [go_sem, cP, *]) (fun hHeld => ?_)
    clear hK K
    try simp only [Act.put, sA, sB, sC]
    refine tkA 8 6 rfl ?_
    refine wpAnyH_done (by kernel_rfl) ?_ _
    go_wp2_with fail
    refine (CheckGas_y 0 h g _ hG).mono ?_
    rintro e xw1 ⟨rfl, hbx1⟩
    have zx1 := hbx1.size
    try simp at zx1
    obtain ⟨x1A0, x1A1, x1A2, x1A3, x1A4, x1A5, x1A6, x1A7⟩ : xw1.cell? ⟨w.heap.size, 0, none⟩ = some (.int .i64 2) ∧ xw1.cell? ⟨w.heap.size, 1, none⟩ = some (.int .i64 d) ∧ xw1.cell? ⟨w.heap.size, 2, none⟩ = some (.string fr) ∧ xw1.cell? ⟨w.heap.size, 3, none⟩ = some (.string tz) ∧ xw1.cell? ⟨w.heap.size, 4, none⟩ = some (.int .i64 0) ∧ xw1.cell? ⟨w.heap.size, 5, none⟩ = some (.int .i64 h) ∧ xw1.cell? ⟨w.heap.size, 6, none⟩ = some (.int .i64 am) ∧ xw1.cell? ⟨w.heap.size, 7, none⟩ = some (.bool pu) := by refine ⟨?_, ?_, ?_, ?_, ?_, ?_, ?_, ?_⟩ <;> (rw [bc1 hbx1]; simp [go_sem, cP, *])
    obtain ⟨x1o0, x1n0⟩ : w.heap.size < xw1.heap.size ∧ xw1.heap.size ≠ w.heap.size := by refine ⟨?_, ?_⟩ <;> omega
    have hBx1 : Below w.heap.size w xw1 := belA
    clear hbx1 
    go_wp2
    go_ret
    exact ⟨rfl, belA⟩
set_option maxHeartbeats 1000000 in
set_option maxRecDepth 100000 in
theorem alp_2F1 (d o h am : Int) (fr tz : ByteArray) (pu : Bool) (w : World) (hF : Hid (firE [rngE d 0 100000, rngE am 1 1000000000] = 0)) (hd : Hid (inB d 0 100000 = true)) (ha : Hid (inB am 1 1000000000 = true)) (hG : Hid (gasE 0 0 = 0)) (hs : tz.size ≠ 0) : Calls Try.prog 95 #[.agg #[.int .i64 2, .int .i64 d, .string fr, .string tz, .int .i64 0, .int .i64 0, .int .i64 am, .bool pu]] w fun e w' => e = .returned (.int .i64 3) ∧ Below w.heap.size w w' := by
  have hd' := hd.out
  have ha' := ha.out
  obtain ⟨e1, e2, e3, e4⟩ := nemp hs
  go_enter Try.func95, Try.ntmps95
  go_upto_region 1 with (fail)
  refine wp_region_held_drew (S := (fun w' => w'.cell? ⟨w.heap.size, 0, none⟩ = some (.int .i64 2) ∧ w'.cell? ⟨w.heap.size, 1, none⟩ = some (.int .i64 d) ∧ w'.cell? ⟨w.heap.size, 2, none⟩ = some (.string fr) ∧ w'.cell? ⟨w.heap.size, 3, none⟩ = some (.string tz) ∧ w'.cell? ⟨w.heap.size, 4, none⟩ = some (.int .i64 0) ∧ w'.cell? ⟨w.heap.size, 5, none⟩ = some (.int .i64 0) ∧ w'.cell? ⟨w.heap.size, 6, none⟩ = some (.int .i64 am) ∧ w'.cell? ⟨w.heap.size, 7, none⟩ = some (.bool pu))) (by kernel_rfl) (by simp [go_sem, cP, *]) (fun hHeld => ?_)
  refine tkA 0 7 rfl ?_
  refine tkA 1 8 rfl ?_
  refine tkA 2 9 rfl ?_
  refine tkA 3 10 rfl ?_
  refine tkA 4 11 rfl ?_
  refine tkA 5 12 rfl ?_
  refine tkA 6 13 rfl ?_
  refine tkA 7 14 rfl ?_
  refine tkA 8 15 rfl ?_
  refine tkA 9 3 rfl ?_
  refine tkA 10 4 rfl ?_
  refine tkA 11 5 rfl ?_
  refine wpAnyH_done (by kernel_rfl) ?_ _
  go_upto_region 4 with (fail)
  refine wp_region_held_drew (S := (fun w' => w'.cell? ⟨w.heap.size, 0, none⟩ = some (.int .i64 2) ∧ w'.cell? ⟨w.heap.size, 1, none⟩ = some (.int .i64 d) ∧ w'.cell? ⟨w.heap.size, 2, none⟩ = some (.string fr) ∧ w'.cell? ⟨w.heap.size, 3, none⟩ = some (.string tz) ∧ w'.cell? ⟨w.heap.size, 4, none⟩ = some (.int .i64 0) ∧ w'.cell? ⟨w.heap.size, 5, none⟩ = some (.int .i64 0) ∧ w'.cell? ⟨w.heap.size, 6, none⟩ = some (.int .i64 am) ∧ w'.cell? ⟨w.heap.size, 7, none⟩ = some (.bool pu))) (by kernel_rfl) (by simp [go_sem, cP, *]) (fun hHeld => ?_)
  refine tkA 0 26 rfl ?_
  refine tkA 1 27 rfl ?_
  refine tkA 3 29 rfl ?_
  refine tkA 4 30 rfl ?_
  refine rdA 2 rfl (fun K hK => ?_)
  go_simp
  refine (cRange_any _ _ _ _).mono ?_
  rintro e wq ⟨rfl, rfl⟩
  go_wp2_with fail
  refine hK.out _ _ (by simp [go_sem, cP, *]) (fun hHeld => ?_)
  clear hK K
  try simp only [Act.put, sA, sB, sC]
  refine rdA 5 rfl (fun K hK => ?_)
  go_simp
  refine (cRange_any _ _ _ _).mono ?_
  rintro e wq ⟨rfl, rfl⟩
  go_wp2_with fail
  refine hK.out _ _ (by simp [go_sem, cP, *]) (fun hHeld => ?_)
  clear hK K
  try simp only [Act.put, sA, sB, sC]
  refine rdA 6 rfl (fun K hK => ?_)
  go_simp
  go_wp2_with fail
  refine hK.out _ _ (by simp [go_sem, cP, *]) (fun hHeld => ?_)
  clear hK K
  try simp only [Act.put, sA, sB, sC]
  refine rdA 7 rfl (fun K hK => ?_)
  go_simp
  refine (cF2y (rngE d 0 100000) (rngE am 1 1000000000) 0 _ _ hF (by simp [go_sem]) (by simp [go_sem])).mono ?_
  rintro e wq ⟨rfl, rfl⟩
  go_wp2_with fail
  refine hK.out _ _ (by simp [go_sem, cP, *]) (fun hHeld => ?_)
  clear hK K
  try simp only [Act.put, sA, sB, sC]
  refine tkA 8 6 rfl ?_
  refine wpAnyH_done (by kernel_rfl) ?_ _
  go_wp2_with fail
  refine (CheckGas_y 0 0 0 _ hG).mono ?_
  rintro e xw1 ⟨rfl, hbx1⟩
  have zx1 := hbx1.size
  try simp at zx1
  obtain ⟨x1A0, x1A1, x1A2, x1A3, x1A4, x1A5, x1A6, x1A7⟩ : xw1.cell? ⟨w.heap.size, 0, none⟩ = some (.int .i64 2) ∧ xw1.cell? ⟨w.heap.size, 1, none⟩ = some (.int .i64 d) ∧ xw1.cell? ⟨w.heap.size, 2, none⟩ = some (.string fr) ∧ xw1.cell? ⟨w.heap.size, 3, none⟩ = some (.string tz) ∧ xw1.cell? ⟨w.heap.size, 4, none⟩ = some (.int .i64 0) ∧ xw1.cell? ⟨w.heap.size, 5, none⟩ = some (.int .i64 0) ∧ xw1.cell? ⟨w.heap.size, 6, none⟩ = some (.int .i64 am) ∧ xw1.cell? ⟨w.heap.size, 7, none⟩ = some (.bool pu) := by refine ⟨?_, ?_, ?_, ?_, ?_, ?_, ?_, ?_⟩ <;> (rw [bc1 hbx1]; simp [go_sem, cP, *])
  obtain ⟨x1o0, x1n0⟩ : w.heap.size < xw1.heap.size ∧ xw1.heap.size ≠ w.heap.size := by refine ⟨?_, ?_⟩ <;> omega
  have hBx1 : Below w.heap.size w xw1 := belA
  clear hbx1 
  go_wp2
  go_ret
  exact ⟨rfl, belA⟩
set_option maxHeartbeats 1000000 in
set_option maxRecDepth 100000 in
theorem alp_2F2 (d o h am : Int) (fr tz : ByteArray) (pu : Bool) (w : World) (hF : Hid (firE [rngE d 0 100000, rngE am 1 1000000000] = 0)) (hd : Hid (inB d 0 100000 = true)) (ha : Hid (inB am 1 1000000000 = true)) (hG : Hid (gasE 0 0 = 0)) : Calls Try.prog 95 #[.agg #[.int .i64 2, .int .i64 d, .string fr, .string ⟨#[]⟩, .int .i64 0, .int .i64 0, .int .i64 am, .bool true]] w fun e w' => e = .returned (.int .i64 3) ∧ Below w.heap.size w w' := by
  have hd' := hd.out
  have ha' := ha.out
  go_enter Try.func95, Try.ntmps95
  go_upto_region 1 with (fail)
  refine wp_region_held_drew (S := (fun w' => w'.cell? ⟨w.heap.size, 0, none⟩ = some (.int .i64 2) ∧ w'.cell? ⟨w.heap.size, 1, none⟩ = some (.int .i64 d) ∧ w'.cell? ⟨w.heap.size, 2, none⟩ = some (.string fr) ∧ w'.cell? ⟨w.heap.size, 3, none⟩ = some (.string ⟨#[]⟩) ∧ w'.cell? ⟨w.heap.size, 4, none⟩ = some (.int .i64 0) ∧ w'.cell? ⟨w.heap.size, 5, none⟩ = some (.int .i64 0) ∧ w'.cell? ⟨w.heap.size, 6, none⟩ = some (.int .i64 am) ∧ w'.cell? ⟨w.heap.size, 7, none⟩ = some (.bool true))) (by kernel_rfl) (by simp [go_sem, cP, *]) (fun hHeld => ?_)
  refine tkA 0 7 rfl ?_
  refine tkA 1 8 rfl ?_
  refine tkA 2 9 rfl ?_
  refine tkA 3 10 rfl ?_
  refine tkA 4 11 rfl ?_
  refine tkA 5 12 rfl ?_
  refine tkA 6 13 rfl ?_
  refine tkA 7 14 rfl ?_
  refine tkA 8 15 rfl ?_
  refine tkA 9 3 rfl ?_
  refine tkA 10 4 rfl ?_
  refine tkA 11 5 rfl ?_
  refine wpAnyH_done (by kernel_rfl) ?_ _
  go_upto_region 4 with (fail)
  refine wp_region_held_drew (S := (fun w' => w'.cell? ⟨w.heap.size, 0, none⟩ = some (.int .i64 2) ∧ w'.cell? ⟨w.heap.size, 1, none⟩ = some (.int .i64 d) ∧ w'.cell? ⟨w.heap.size, 2, none⟩ = some (.string fr) ∧ w'.cell? ⟨w.heap.size, 3, none⟩ = some (.string ⟨#[]⟩) ∧ w'.cell? ⟨w.heap.size, 4, none⟩ = some (.int .i64 0) ∧ w'.cell? ⟨w.heap.size, 5, none⟩ = some (.int .i64 0) ∧ w'.cell? ⟨w.heap.size, 6, none⟩ = some (.int .i64 am) ∧ w'.cell? ⟨w.heap.size, 7, none⟩ = some (.bool true))) (by kernel_rfl) (by simp [go_sem, cP, *]) (fun hHeld => ?_)
  refine tkA 0 26 rfl ?_
  refine tkA 1 27 rfl ?_
  refine tkA 3 29 rfl ?_
  refine tkA 4 30 rfl ?_
  refine rdA 2 rfl (fun K hK => ?_)
  go_simp
  refine (cRange_any _ _ _ _).mono ?_
  rintro e wq ⟨rfl, rfl⟩
  go_wp2_with fail
  refine hK.out _ _ (by simp [go_sem, cP, *]) (fun hHeld => ?_)
  clear hK K
  try simp only [Act.put, sA, sB, sC]
  refine rdA 5 rfl (fun K hK => ?_)
  go_simp
  refine (cRange_any _ _ _ _).mono ?_
  rintro e wq ⟨rfl, rfl⟩
  go_wp2_with fail
  refine hK.out _ _ (by simp [go_sem, cP, *]) (fun hHeld => ?_)
  clear hK K
  try simp only [Act.put, sA, sB, sC]
  refine rdA 6 rfl (fun K hK => ?_)
  go_simp
  go_wp2_with fail
  refine hK.out _ _ (by simp [go_sem, cP, *]) (fun hHeld => ?_)
  clear hK K
  try simp only [Act.put, sA, sB, sC]
  refine rdA 7 rfl (fun K hK => ?_)
  go_simp
  refine (cF2y (rngE d 0 100000) (rngE am 1 1000000000) 0 _ _ hF (by simp [go_sem]) (by simp [go_sem])).mono ?_
  rintro e wq ⟨rfl, rfl⟩
  go_wp2_with fail
  refine hK.out _ _ (by simp [go_sem, cP, *]) (fun hHeld => ?_)
  clear hK K
  try simp only [Act.put, sA, sB, sC]
  refine tkA 8 6 rfl ?_
  refine wpAnyH_done (by kernel_rfl) ?_ _
  go_wp2_with fail
  refine (CheckGas_y 0 0 0 _ hG).mono ?_
  rintro e xw1 ⟨rfl, hbx1⟩
  have zx1 := hbx1.size
  try simp at zx1
  obtain ⟨x1A0, x1A1, x1A2, x1A3, x1A4, x1A5, x1A6, x1A7⟩ : xw1.cell? ⟨w.heap.size, 0, none⟩ = some (.int .i64 2) ∧ xw1.cell? ⟨w.heap.size, 1, none⟩ = some (.int .i64 d) ∧ xw1.cell? ⟨w.heap.size, 2, none⟩ = some (.string fr) ∧ xw1.cell? ⟨w.heap.size, 3, none⟩ = some (.string ⟨#[]⟩) ∧ xw1.cell? ⟨w.heap.size, 4, none⟩ = some (.int .i64 0) ∧ xw1.cell? ⟨w.heap.size, 5, none⟩ = some (.int .i64 0) ∧ xw1.cell? ⟨w.heap.size, 6, none⟩ = some (.int .i64 am) ∧ xw1.cell? ⟨w.heap.size, 7, none⟩ = some (.bool true) := by refine ⟨?_, ?_, ?_, ?_, ?_, ?_, ?_, ?_⟩ <;> (rw [bc1 hbx1]; simp [go_sem, cP, *])
  obtain ⟨x1o0, x1n0⟩ : w.heap.size < xw1.heap.size ∧ xw1.heap.size ≠ w.heap.size := by refine ⟨?_, ?_⟩ <;> omega
  have hBx1 : Below w.heap.size w xw1 := belA
  clear hbx1 
  go_wp2
  go_ret
  exact ⟨rfl, belA⟩
set_option maxHeartbeats 1000000 in
set_option maxRecDepth 100000 in
theorem alp_2OK (d o h am : Int) (fr tz : ByteArray) (pu : Bool) (w : World) (hF : Hid (firE [rngE d 0 100000, rngE am 1 1000000000] = 0)) (hd : Hid (inB d 0 100000 = true)) (ha : Hid (inB am 1 1000000000 = true)) (hG : Hid (gasE 0 0 = 0)) : Calls Try.prog 95 #[.agg #[.int .i64 2, .int .i64 d, .string fr, .string ⟨#[]⟩, .int .i64 0, .int .i64 0, .int .i64 am, .bool false]] w fun e w' => e = .returned (.int .i64 0) ∧ Below w.heap.size w w' := by
  have hd' := hd.out
  have ha' := ha.out
  go_enter Try.func95, Try.ntmps95
  go_upto_region 1 with (fail)
  refine wp_region_held_drew (S := (fun w' => w'.cell? ⟨w.heap.size, 0, none⟩ = some (.int .i64 2) ∧ w'.cell? ⟨w.heap.size, 1, none⟩ = some (.int .i64 d) ∧ w'.cell? ⟨w.heap.size, 2, none⟩ = some (.string fr) ∧ w'.cell? ⟨w.heap.size, 3, none⟩ = some (.string ⟨#[]⟩) ∧ w'.cell? ⟨w.heap.size, 4, none⟩ = some (.int .i64 0) ∧ w'.cell? ⟨w.heap.size, 5, none⟩ = some (.int .i64 0) ∧ w'.cell? ⟨w.heap.size, 6, none⟩ = some (.int .i64 am) ∧ w'.cell? ⟨w.heap.size, 7, none⟩ = some (.bool false))) (by kernel_rfl) (by simp [go_sem, cP, *]) (fun hHeld => ?_)
  refine tkA 0 7 rfl ?_
  refine tkA 1 8 rfl ?_
  refine tkA 2 9 rfl ?_
  refine tkA 3 10 rfl ?_
  refine tkA 4 11 rfl ?_
  refine tkA 5 12 rfl ?_
  refine tkA 6 13 rfl ?_
  refine tkA 7 14 rfl ?_
  refine tkA 8 15 rfl ?_
  refine tkA 9 3 rfl ?_
  refine tkA 10 4 rfl ?_
  refine tkA 11 5 rfl ?_
  refine wpAnyH_done (by kernel_rfl) ?_ _
  go_upto_region 4 with (fail)
  refine wp_region_held_drew (S := (fun w' => w'.cell? ⟨w.heap.size, 0, none⟩ = some (.int .i64 2) ∧ w'.cell? ⟨w.heap.size, 1, none⟩ = some (.int .i64 d) ∧ w'.cell? ⟨w.heap.size, 2, none⟩ = some (.string fr) ∧ w'.cell? ⟨w.heap.size, 3, none⟩ = some (.string ⟨#[]⟩) ∧ w'.cell? ⟨w.heap.size, 4, none⟩ = some (.int .i64 0) ∧ w'.cell? ⟨w.heap.size, 5, none⟩ = some (.int .i64 0) ∧ w'.cell? ⟨w.heap.size, 6, none⟩ = some (.int .i64 am) ∧ w'.cell? ⟨w.heap.size, 7, none⟩ = some (.bool false))) (by kernel_rfl) (by simp [go_sem, cP, *]) (fun hHeld => ?_)
  refine tkA 0 26 rfl ?_
  refine tkA 1 27 rfl ?_
  refine tkA 3 29 rfl ?_
  refine tkA 4 30 rfl ?_
  refine rdA 2 rfl (fun K hK => ?_)
  go_simp
  refine (cRange_any _ _ _ _).mono ?_
  rintro e wq ⟨rfl, rfl⟩
  go_wp2_with fail
  refine hK.out _ _ (by simp [go_sem, cP, *]) (fun hHeld => ?_)
  clear hK K
  try simp only [Act.put, sA, sB, sC]
  refine rdA 5 rfl (fun K hK => ?_)
  go_simp
  refine (cRange_any _ _ _ _).mono ?_
  rintro e wq ⟨rfl, rfl⟩
  go_wp2_with fail
  refine hK.out _ _ (by simp [go_sem, cP, *]) (fun hHeld => ?_)
  clear hK K
  try simp only [Act.put, sA, sB, sC]
  refine rdA 6 rfl (fun K hK => ?_)
  go_simp
  go_wp2_with fail
  refine hK.out _ _ (by simp [go_sem, cP, *]) (fun hHeld => ?_)
  clear hK K
  try simp only [Act.put, sA, sB, sC]
  refine rdA 7 rfl (fun K hK => ?_)
  go_simp
  refine (cF2y (rngE d 0 100000) (rngE am 1 1000000000) 0 _ _ hF (by simp [go_sem]) (by simp [go_sem])).mono ?_
  rintro e wq ⟨rfl, rfl⟩
  go_wp2_with fail
  refine hK.out _ _ (by simp [go_sem, cP, *]) (fun hHeld => ?_)
  clear hK K
  try simp only [Act.put, sA, sB, sC]
  refine tkA 8 6 rfl ?_
  refine wpAnyH_done (by kernel_rfl) ?_ _
  go_wp2_with fail
  refine (CheckGas_y 0 0 0 _ hG).mono ?_
  rintro e xw1 ⟨rfl, hbx1⟩
  have zx1 := hbx1.size
  try simp at zx1
  obtain ⟨x1A0, x1A1, x1A2, x1A3, x1A4, x1A5, x1A6, x1A7⟩ : xw1.cell? ⟨w.heap.size, 0, none⟩ = some (.int .i64 2) ∧ xw1.cell? ⟨w.heap.size, 1, none⟩ = some (.int .i64 d) ∧ xw1.cell? ⟨w.heap.size, 2, none⟩ = some (.string fr) ∧ xw1.cell? ⟨w.heap.size, 3, none⟩ = some (.string ⟨#[]⟩) ∧ xw1.cell? ⟨w.heap.size, 4, none⟩ = some (.int .i64 0) ∧ xw1.cell? ⟨w.heap.size, 5, none⟩ = some (.int .i64 0) ∧ xw1.cell? ⟨w.heap.size, 6, none⟩ = some (.int .i64 am) ∧ xw1.cell? ⟨w.heap.size, 7, none⟩ = some (.bool false) := by refine ⟨?_, ?_, ?_, ?_, ?_, ?_, ?_, ?_⟩ <;> (rw [bc1 hbx1]; simp [go_sem, cP, *])
  obtain ⟨x1o0, x1n0⟩ : w.heap.size < xw1.heap.size ∧ xw1.heap.size ≠ w.heap.size := by refine ⟨?_, ?_⟩ <;> omega
  have hBx1 : Below w.heap.size w xw1 := belA
  clear hbx1 
  go_wp2
  go_ret
  exact ⟨rfl, belA⟩
theorem alp_any (k d o h am E : Int) (fr tz : ByteArray) (pu : Bool) (w : World) (hE : Hid (alnE k d fr tz o h am pu = E)) : Calls Try.prog 95 #[.agg #[.int .i64 k, .int .i64 d, .string fr, .string tz, .int .i64 o, .int .i64 h, .int .i64 am, .bool pu]] w fun e w' => e = .returned (.int .i64 E) ∧ Below w.heap.size w w' := by
  have he := hE.out
  unfold alnE at he
  by_cases hk : k = 0 ∨ k = 1 ∨ k = 2
  · rw [if_pos hk] at he
    have f0 : ∀ x a b : Int, rngE x a b = 0 ∨ rngE x a b = 2 := fun x a b => by rcases inB_cases x a b with h | h; exact Or.inl (rngE_t h); exact Or.inr (rngE_f h)
    have f2 := fir2 (f0 d 0 100000) (f0 am 1 1000000000)
    rcases inB_cases d 0 100000 with hd | hd
    · rcases inB_cases am 1 1000000000 with ha | ha
      · rw [if_pos ⟨hd, ha⟩] at he
        have hF := f2.1 ⟨rngE_t hd, rngE_t ha⟩
        rcases hk with rfl | rfl | rfl
        · by_cases hG : gasE o h = 0
          · rw [if_pos ⟨hG, Or.inl rfl⟩] at he
            by_cases hs : fr.size = 0
            · obtain rfl := emp_of hs
              cases pu with
              | true => rw [if_pos (by simp)] at he; subst he; exact alp_0F2 d o h am ⟨#[]⟩ tz true w (Lib.hid hF) (Lib.hid hd) (Lib.hid ha) (Lib.hid hG)
              | false => rw [if_neg (fun hx => by rcases hx with hx | hx | hx | hx; exact hx.2 hs; exact absurd hx.1 (by omega); exact absurd hx.1 (by omega); exact absurd hx.1 (by simp))] at he; subst he; exact alp_0OK d o h am ⟨#[]⟩ tz false w (Lib.hid hF) (Lib.hid hd) (Lib.hid ha) (Lib.hid hG)
            · rw [if_pos (Or.inl ⟨rfl, hs⟩)] at he; subst he; exact alp_0F1 d o h am fr tz pu w (Lib.hid hF) (Lib.hid hd) (Lib.hid ha) (Lib.hid hG) hs
          · rw [if_neg (fun hh => hG hh.1)] at he; subst he; exact alp_0G d o h am fr tz pu w (Lib.hid hF) (Lib.hid hd) (Lib.hid ha) _ (Lib.hid rfl) (by simpa using hG)
        · by_cases ho : o = 0
          · by_cases hh : h = 0
            · subst ho hh
              rw [if_pos ⟨rfl, Or.inr ⟨rfl, rfl⟩⟩] at he
              by_cases hs : fr = tz
              · subst hs
                rw [if_pos (by simp)] at he; subst he; exact alp_1F1 d 0 0 am fr fr pu w (Lib.hid hF) (Lib.hid hd) (Lib.hid ha) (Lib.hid rfl)
              · rw [if_neg (by intro hx; rcases hx with hx | hx | hx | hx; exact absurd hx.1 (by omega); exact absurd hx.1 (by omega); exact hs (baEq hx.2); exact absurd rfl hx.2)] at he; subst he; (cases pu with | true => exact alp_1OKt d 0 0 am fr tz true w (Lib.hid hF) (Lib.hid hd) (Lib.hid ha) (Lib.hid rfl) hs | false => exact alp_1OKf d 0 0 am fr tz false w (Lib.hid hF) (Lib.hid hd) (Lib.hid ha) (Lib.hid rfl) hs)
            · subst ho
              rw [if_neg (fun hx => by rcases hx.2 with hx | hx; omega; exact hh hx.2)] at he; subst he; exact alp_1Z2 d 0 h am fr tz pu w (Lib.hid hF) (Lib.hid hd) (Lib.hid ha) _ (Lib.hid rfl) hh
          · rw [if_neg (fun hx => by rcases hx.2 with hx | hx; omega; exact ho hx.1)] at he; subst he; exact alp_1Z1 d o h am fr tz pu w (Lib.hid hF) (Lib.hid hd) (Lib.hid ha) _ (Lib.hid rfl) ho
        · by_cases ho : o = 0
          · by_cases hh : h = 0
            · subst ho hh
              rw [if_pos ⟨rfl, Or.inr ⟨rfl, rfl⟩⟩] at he
              by_cases hs : tz.size = 0
              · obtain rfl := emp_of hs
                cases pu with
                | true => rw [if_pos (by simp)] at he; subst he; exact alp_2F2 d 0 0 am fr ⟨#[]⟩ true w (Lib.hid hF) (Lib.hid hd) (Lib.hid ha) (Lib.hid rfl)
                | false => rw [if_neg (fun hx => by rcases hx with hx | hx | hx | hx; exact absurd hx.1 (by omega); exact hx.2 hs; exact absurd hx.1 (by omega); exact absurd hx.1 (by simp))] at he; subst he; exact alp_2OK d 0 0 am fr ⟨#[]⟩ false w (Lib.hid hF) (Lib.hid hd) (Lib.hid ha) (Lib.hid rfl)
              · rw [if_pos (Or.inr (Or.inl ⟨rfl, hs⟩))] at he; subst he; exact alp_2F1 d 0 0 am fr tz pu w (Lib.hid hF) (Lib.hid hd) (Lib.hid ha) (Lib.hid rfl) hs
            · subst ho
              rw [if_neg (fun hx => by rcases hx.2 with hx | hx; omega; exact hh hx.2)] at he; subst he; exact alp_2Z2 d 0 h am fr tz pu w (Lib.hid hF) (Lib.hid hd) (Lib.hid ha) _ (Lib.hid rfl) hh
          · rw [if_neg (fun hx => by rcases hx.2 with hx | hx; omega; exact ho hx.1)] at he; subst he; exact alp_2Z1 d o h am fr tz pu w (Lib.hid hF) (Lib.hid hd) (Lib.hid ha) _ (Lib.hid rfl) ho
      · rw [if_neg (fun hh => by rw [ha] at hh; exact Bool.false_ne_true hh.2)] at he
        subst he
        have hF := f2.2 (fun hh => by rw [rngE_f ha] at hh; omega)
        rcases hk with rfl | rfl | rfl
        · exact alp_0R2 d o h am fr tz pu w (Lib.hid hF) (Lib.hid hd) (Lib.hid ha)
        · exact alp_1R2 d o h am fr tz pu w (Lib.hid hF) (Lib.hid hd) (Lib.hid ha)
        · exact alp_2R2 d o h am fr tz pu w (Lib.hid hF) (Lib.hid hd) (Lib.hid ha)
    · rw [if_neg (fun hh => by rw [hd] at hh; exact Bool.false_ne_true hh.1)] at he
      subst he
      have hF := f2.2 (fun hh => by rw [rngE_f hd] at hh; omega)
      rcases hk with rfl | rfl | rfl
      · exact alp_0R1 d o h am fr tz pu w (Lib.hid hF) (Lib.hid hd)
      · exact alp_1R1 d o h am fr tz pu w (Lib.hid hF) (Lib.hid hd)
      · exact alp_2R1 d o h am fr tz pu w (Lib.hid hF) (Lib.hid hd)
  · rw [if_neg hk] at he
    subst he
    exact alp_kind k d o h am fr tz pu w (fun e => hk (Or.inl e)) (fun e => hk (Or.inr (Or.inl e))) (fun e => hk (Or.inr (Or.inr e)))
set_option maxHeartbeats 1000000 in
set_option maxRecDepth 100000 in
theorem alr_kind (k : Int) (d o h am : Int) (fr tz : ByteArray) (pu : Bool) (w : World) (k0 : ¬ k = 0) (k1 : ¬ k = 1) (k2 : ¬ k = 2) : Calls Try.prog 71 #[.agg #[.int .i64 k, .int .i64 d, .string fr, .string tz, .int .i64 o, .int .i64 h, .int .i64 am, .bool pu]] w fun e w' => e = .returned (.int .i64 15) ∧ Below w.heap.size w w' := by
  have k0b : (k == 0) = false := by simpa using k0
  have k1b : (k == 1) = false := by simpa using k1
  have k2b : (k == 2) = false := by simpa using k2
  have hk : inB k 0 2 = false := inB_not.2 (by omega)
  go_enter Try.func71, Try.ntmps71
  go_wp2_with (first | (go_at_call 33; ((with_reducible refine (baseWithin_any _ _ _ _).mono ?_)); rintro e w' ⟨rfl, rfl⟩))
  go_ret
  exact ⟨rfl, belA⟩
set_option maxHeartbeats 1000000 in
set_option maxRecDepth 100000 in
theorem alr_0R1 (d o h am : Int) (fr tz : ByteArray) (pu : Bool) (w : World) (hF : Hid (firE [rngE d 0 100000, rngE am 1 1000000000] = 2)) (hd : Hid (inB d 0 100000 = false)) : Calls Try.prog 71 #[.agg #[.int .i64 0, .int .i64 d, .string fr, .string tz, .int .i64 o, .int .i64 h, .int .i64 am, .bool pu]] w fun e w' => e = .returned (.int .i64 2) ∧ Below w.heap.size w w' := by
  have hd' := hd.out
  have hk : inB 0 0 2 = true := by decide
  go_enter Try.func71, Try.ntmps71
  go_wp2_with (first | (go_at_call 33; ((with_reducible refine (baseWithin_any _ _ _ _).mono ?_)); rintro e w' ⟨rfl, rfl⟩))
  go_ret
  exact ⟨rfl, belA⟩
set_option maxHeartbeats 1000000 in
set_option maxRecDepth 100000 in
theorem alr_0R2 (d o h am : Int) (fr tz : ByteArray) (pu : Bool) (w : World) (hF : Hid (firE [rngE d 0 100000, rngE am 1 1000000000] = 2)) (hd : Hid (inB d 0 100000 = true)) (ha : Hid (inB am 1 1000000000 = false)) : Calls Try.prog 71 #[.agg #[.int .i64 0, .int .i64 d, .string fr, .string tz, .int .i64 o, .int .i64 h, .int .i64 am, .bool pu]] w fun e w' => e = .returned (.int .i64 2) ∧ Below w.heap.size w w' := by
  have hd' := hd.out
  have ha' := ha.out
  have hk : inB 0 0 2 = true := by decide
  go_enter Try.func71, Try.ntmps71
  go_wp2_with (first | (go_at_call 33; ((with_reducible refine (baseWithin_any _ _ _ _).mono ?_)); rintro e w' ⟨rfl, rfl⟩))
  go_ret
  exact ⟨rfl, belA⟩
set_option maxHeartbeats 1000000 in
set_option maxRecDepth 100000 in
theorem alr_0G (d o h am : Int) (fr tz : ByteArray) (pu : Bool) (w : World) (hF : Hid (firE [rngE d 0 100000, rngE am 1 1000000000] = 0)) (hd : Hid (inB d 0 100000 = true)) (ha : Hid (inB am 1 1000000000 = true)) (g : Int) (hG : Hid (gasE o h = g)) (hg : (g != 0) = true) : Calls Try.prog 71 #[.agg #[.int .i64 0, .int .i64 d, .string fr, .string tz, .int .i64 o, .int .i64 h, .int .i64 am, .bool pu]] w fun e w' => e = .returned (.int .i64 2) ∧ Below w.heap.size w w' := by
  have hd' := hd.out
  have ha' := ha.out
  have hk : inB 0 0 2 = true := by decide
  go_enter Try.func71, Try.ntmps71
  go_wp2_with (first | (go_at_call 33; ((with_reducible refine (baseWithin_any _ _ _ _).mono ?_)); rintro e w' ⟨rfl, rfl⟩) | (go_at_call 79; ((with_reducible refine (refCheckGas_y o h g _ hG).mono ?_)); rintro e w1 ⟨rfl, hbw⟩; obtain ⟨hbc, hbf⟩ := bcell hbw; have hbs := hbw.size))
  go_ret
  exact ⟨rfl, belA⟩
set_option maxHeartbeats 1000000 in
set_option maxRecDepth 100000 in
theorem alr_0F1 (d o h am : Int) (fr tz : ByteArray) (pu : Bool) (w : World) (hF : Hid (firE [rngE d 0 100000, rngE am 1 1000000000] = 0)) (hd : Hid (inB d 0 100000 = true)) (ha : Hid (inB am 1 1000000000 = true)) (hG : Hid (gasE o h = 0)) (hs : fr.size ≠ 0) : Calls Try.prog 71 #[.agg #[.int .i64 0, .int .i64 d, .string fr, .string tz, .int .i64 o, .int .i64 h, .int .i64 am, .bool pu]] w fun e w' => e = .returned (.int .i64 3) ∧ Below w.heap.size w w' := by
  have hd' := hd.out
  have ha' := ha.out
  obtain ⟨e1, e2, e3, e4⟩ := nemp hs
  have hk : inB 0 0 2 = true := by decide
  go_enter Try.func71, Try.ntmps71
  go_wp2_with (first | (go_at_call 33; ((with_reducible refine (baseWithin_any _ _ _ _).mono ?_)); rintro e w' ⟨rfl, rfl⟩) | (go_at_call 79; ((with_reducible refine (refCheckGas_y o h 0 _ hG).mono ?_)); rintro e w1 ⟨rfl, hbw⟩; obtain ⟨hbc, hbf⟩ := bcell hbw; have hbs := hbw.size))
  go_ret
  exact ⟨rfl, belA⟩
set_option maxHeartbeats 1000000 in
set_option maxRecDepth 100000 in
theorem alr_0F2 (d o h am : Int) (fr tz : ByteArray) (pu : Bool) (w : World) (hF : Hid (firE [rngE d 0 100000, rngE am 1 1000000000] = 0)) (hd : Hid (inB d 0 100000 = true)) (ha : Hid (inB am 1 1000000000 = true)) (hG : Hid (gasE o h = 0)) : Calls Try.prog 71 #[.agg #[.int .i64 0, .int .i64 d, .string ⟨#[]⟩, .string tz, .int .i64 o, .int .i64 h, .int .i64 am, .bool true]] w fun e w' => e = .returned (.int .i64 3) ∧ Below w.heap.size w w' := by
  have hd' := hd.out
  have ha' := ha.out
  have hk : inB 0 0 2 = true := by decide
  go_enter Try.func71, Try.ntmps71
  go_wp2_with (first | (go_at_call 33; ((with_reducible refine (baseWithin_any _ _ _ _).mono ?_)); rintro e w' ⟨rfl, rfl⟩) | (go_at_call 79; ((with_reducible refine (refCheckGas_y o h 0 _ hG).mono ?_)); rintro e w1 ⟨rfl, hbw⟩; obtain ⟨hbc, hbf⟩ := bcell hbw; have hbs := hbw.size))
  go_ret
  exact ⟨rfl, belA⟩
set_option maxHeartbeats 1000000 in
set_option maxRecDepth 100000 in
theorem alr_0OK (d o h am : Int) (fr tz : ByteArray) (pu : Bool) (w : World) (hF : Hid (firE [rngE d 0 100000, rngE am 1 1000000000] = 0)) (hd : Hid (inB d 0 100000 = true)) (ha : Hid (inB am 1 1000000000 = true)) (hG : Hid (gasE o h = 0)) : Calls Try.prog 71 #[.agg #[.int .i64 0, .int .i64 d, .string ⟨#[]⟩, .string tz, .int .i64 o, .int .i64 h, .int .i64 am, .bool false]] w fun e w' => e = .returned (.int .i64 0) ∧ Below w.heap.size w w' := by
  have hd' := hd.out
  have ha' := ha.out
  have hk : inB 0 0 2 = true := by decide
  go_enter Try.func71, Try.ntmps71
  go_wp2_with (first | (go_at_call 33; ((with_reducible refine (baseWithin_any _ _ _ _).mono ?_)); rintro e w' ⟨rfl, rfl⟩) | (go_at_call 79; ((with_reducible refine (refCheckGas_y o h 0 _ hG).mono ?_)); rintro e w1 ⟨rfl, hbw⟩; obtain ⟨hbc, hbf⟩ := bcell hbw; have hbs := hbw.size))
  go_ret
  exact ⟨rfl, belA⟩
set_option maxHeartbeats 1000000 in
set_option maxRecDepth 100000 in
theorem alr_1R1 (d o h am : Int) (fr tz : ByteArray) (pu : Bool) (w : World) (hF : Hid (firE [rngE d 0 100000, rngE am 1 1000000000] = 2)) (hd : Hid (inB d 0 100000 = false)) : Calls Try.prog 71 #[.agg #[.int .i64 1, .int .i64 d, .string fr, .string tz, .int .i64 o, .int .i64 h, .int .i64 am, .bool pu]] w fun e w' => e = .returned (.int .i64 2) ∧ Below w.heap.size w w' := by
  have hd' := hd.out
  have hk : inB 1 0 2 = true := by decide
  go_enter Try.func71, Try.ntmps71
  go_wp2_with (first | (go_at_call 33; ((with_reducible refine (baseWithin_any _ _ _ _).mono ?_)); rintro e w' ⟨rfl, rfl⟩))
  go_ret
  exact ⟨rfl, belA⟩
set_option maxHeartbeats 1000000 in
set_option maxRecDepth 100000 in
theorem alr_1R2 (d o h am : Int) (fr tz : ByteArray) (pu : Bool) (w : World) (hF : Hid (firE [rngE d 0 100000, rngE am 1 1000000000] = 2)) (hd : Hid (inB d 0 100000 = true)) (ha : Hid (inB am 1 1000000000 = false)) : Calls Try.prog 71 #[.agg #[.int .i64 1, .int .i64 d, .string fr, .string tz, .int .i64 o, .int .i64 h, .int .i64 am, .bool pu]] w fun e w' => e = .returned (.int .i64 2) ∧ Below w.heap.size w w' := by
  have hd' := hd.out
  have ha' := ha.out
  have hk : inB 1 0 2 = true := by decide
  go_enter Try.func71, Try.ntmps71
  go_wp2_with (first | (go_at_call 33; ((with_reducible refine (baseWithin_any _ _ _ _).mono ?_)); rintro e w' ⟨rfl, rfl⟩))
  go_ret
  exact ⟨rfl, belA⟩
set_option maxHeartbeats 1000000 in
set_option maxRecDepth 100000 in
theorem alr_1Z1 (d o h am : Int) (fr tz : ByteArray) (pu : Bool) (w : World) (hF : Hid (firE [rngE d 0 100000, rngE am 1 1000000000] = 0)) (hd : Hid (inB d 0 100000 = true)) (ha : Hid (inB am 1 1000000000 = true)) (g : Int) (hG : Hid (gasE o h = g)) (ho : ¬ o = 0) : Calls Try.prog 71 #[.agg #[.int .i64 1, .int .i64 d, .string fr, .string tz, .int .i64 o, .int .i64 h, .int .i64 am, .bool pu]] w fun e w' => e = .returned (.int .i64 2) ∧ Below w.heap.size w w' := by
  have hd' := hd.out
  have ha' := ha.out
  have ho2 : (o == 0) = false := by simpa using ho
  have hk : inB 1 0 2 = true := by decide
  rcases ez2b g with ⟨hg0, hg⟩ | ⟨hg0, hg⟩
  · go_enter Try.func71, Try.ntmps71
    go_wp2_with (first | (go_at_call 33; ((with_reducible refine (baseWithin_any _ _ _ _).mono ?_)); rintro e w' ⟨rfl, rfl⟩) | (go_at_call 79; ((with_reducible refine (refCheckGas_y o h g _ hG).mono ?_)); rintro e w1 ⟨rfl, hbw⟩; obtain ⟨hbc, hbf⟩ := bcell hbw; have hbs := hbw.size))
    go_ret
    exact ⟨rfl, belA⟩
  · go_enter Try.func71, Try.ntmps71
    go_wp2_with (first | (go_at_call 33; ((with_reducible refine (baseWithin_any _ _ _ _).mono ?_)); rintro e w' ⟨rfl, rfl⟩) | (go_at_call 79; ((with_reducible refine (refCheckGas_y o h g _ hG).mono ?_)); rintro e w1 ⟨rfl, hbw⟩; obtain ⟨hbc, hbf⟩ := bcell hbw; have hbs := hbw.size))
    go_ret
    exact ⟨rfl, belA⟩
set_option maxHeartbeats 1000000 in
set_option maxRecDepth 100000 in
theorem alr_1Z2 (d o h am : Int) (fr tz : ByteArray) (pu : Bool) (w : World) (hF : Hid (firE [rngE d 0 100000, rngE am 1 1000000000] = 0)) (hd : Hid (inB d 0 100000 = true)) (ha : Hid (inB am 1 1000000000 = true)) (g : Int) (hG : Hid (gasE 0 h = g)) (ho : ¬ h = 0) : Calls Try.prog 71 #[.agg #[.int .i64 1, .int .i64 d, .string fr, .string tz, .int .i64 0, .int .i64 h, .int .i64 am, .bool pu]] w fun e w' => e = .returned (.int .i64 2) ∧ Below w.heap.size w w' := by
  have hd' := hd.out
  have ha' := ha.out
  have ho2 : (h == 0) = false := by simpa using ho
  have hk : inB 1 0 2 = true := by decide
  rcases ez2b g with ⟨hg0, hg⟩ | ⟨hg0, hg⟩
  · go_enter Try.func71, Try.ntmps71
    go_wp2_with (first | (go_at_call 33; ((with_reducible refine (baseWithin_any _ _ _ _).mono ?_)); rintro e w' ⟨rfl, rfl⟩) | (go_at_call 79; ((with_reducible refine (refCheckGas_y 0 h g _ hG).mono ?_)); rintro e w1 ⟨rfl, hbw⟩; obtain ⟨hbc, hbf⟩ := bcell hbw; have hbs := hbw.size))
    go_ret
    exact ⟨rfl, belA⟩
  · go_enter Try.func71, Try.ntmps71
    go_wp2_with (first | (go_at_call 33; ((with_reducible refine (baseWithin_any _ _ _ _).mono ?_)); rintro e w' ⟨rfl, rfl⟩) | (go_at_call 79; ((with_reducible refine (refCheckGas_y 0 h g _ hG).mono ?_)); rintro e w1 ⟨rfl, hbw⟩; obtain ⟨hbc, hbf⟩ := bcell hbw; have hbs := hbw.size))
    go_ret
    exact ⟨rfl, belA⟩
set_option maxHeartbeats 1000000 in
set_option maxRecDepth 100000 in
theorem alr_1F1 (d o h am : Int) (fr tz : ByteArray) (pu : Bool) (w : World) (hF : Hid (firE [rngE d 0 100000, rngE am 1 1000000000] = 0)) (hd : Hid (inB d 0 100000 = true)) (ha : Hid (inB am 1 1000000000 = true)) (hG : Hid (gasE 0 0 = 0)) : Calls Try.prog 71 #[.agg #[.int .i64 1, .int .i64 d, .string fr, .string fr, .int .i64 0, .int .i64 0, .int .i64 am, .bool pu]] w fun e w' => e = .returned (.int .i64 3) ∧ Below w.heap.size w w' := by
  have hd' := hd.out
  have ha' := ha.out
  have hk : inB 1 0 2 = true := by decide
  go_enter Try.func71, Try.ntmps71
  go_wp2_with (first | (go_at_call 33; ((with_reducible refine (baseWithin_any _ _ _ _).mono ?_)); rintro e w' ⟨rfl, rfl⟩) | (go_at_call 79; ((with_reducible refine (refCheckGas_y 0 0 0 _ hG).mono ?_)); rintro e w1 ⟨rfl, hbw⟩; obtain ⟨hbc, hbf⟩ := bcell hbw; have hbs := hbw.size))
  go_ret
  exact ⟨rfl, belA⟩
set_option maxHeartbeats 1000000 in
set_option maxRecDepth 100000 in
theorem alr_1OKt (d o h am : Int) (fr tz : ByteArray) (pu : Bool) (w : World) (hF : Hid (firE [rngE d 0 100000, rngE am 1 1000000000] = 0)) (hd : Hid (inB d 0 100000 = true)) (ha : Hid (inB am 1 1000000000 = true)) (hG : Hid (gasE 0 0 = 0)) (hs : ¬ fr = tz) : Calls Try.prog 71 #[.agg #[.int .i64 1, .int .i64 d, .string fr, .string tz, .int .i64 0, .int .i64 0, .int .i64 am, .bool true]] w fun e w' => e = .returned (.int .i64 0) ∧ Below w.heap.size w w' := by
  have hd' := hd.out
  have ha' := ha.out
  have hq := neStr hs
  have hk : inB 1 0 2 = true := by decide
  go_enter Try.func71, Try.ntmps71
  go_wp2_with (first | (go_at_call 33; ((with_reducible refine (baseWithin_any _ _ _ _).mono ?_)); rintro e w' ⟨rfl, rfl⟩) | (go_at_call 79; ((with_reducible refine (refCheckGas_y 0 0 0 _ hG).mono ?_)); rintro e w1 ⟨rfl, hbw⟩; obtain ⟨hbc, hbf⟩ := bcell hbw; have hbs := hbw.size))
  go_ret
  exact ⟨rfl, belA⟩
set_option maxHeartbeats 1000000 in
set_option maxRecDepth 100000 in
theorem alr_1OKf (d o h am : Int) (fr tz : ByteArray) (pu : Bool) (w : World) (hF : Hid (firE [rngE d 0 100000, rngE am 1 1000000000] = 0)) (hd : Hid (inB d 0 100000 = true)) (ha : Hid (inB am 1 1000000000 = true)) (hG : Hid (gasE 0 0 = 0)) (hs : ¬ fr = tz) : Calls Try.prog 71 #[.agg #[.int .i64 1, .int .i64 d, .string fr, .string tz, .int .i64 0, .int .i64 0, .int .i64 am, .bool false]] w fun e w' => e = .returned (.int .i64 0) ∧ Below w.heap.size w w' := by
  have hd' := hd.out
  have ha' := ha.out
  have hq := neStr hs
  have hk : inB 1 0 2 = true := by decide
  go_enter Try.func71, Try.ntmps71
  go_wp2_with (first | (go_at_call 33; ((with_reducible refine (baseWithin_any _ _ _ _).mono ?_)); rintro e w' ⟨rfl, rfl⟩) | (go_at_call 79; ((with_reducible refine (refCheckGas_y 0 0 0 _ hG).mono ?_)); rintro e w1 ⟨rfl, hbw⟩; obtain ⟨hbc, hbf⟩ := bcell hbw; have hbs := hbw.size))
  go_ret
  exact ⟨rfl, belA⟩
set_option maxHeartbeats 1000000 in
set_option maxRecDepth 100000 in
theorem alr_2R1 (d o h am : Int) (fr tz : ByteArray) (pu : Bool) (w : World) (hF : Hid (firE [rngE d 0 100000, rngE am 1 1000000000] = 2)) (hd : Hid (inB d 0 100000 = false)) : Calls Try.prog 71 #[.agg #[.int .i64 2, .int .i64 d, .string fr, .string tz, .int .i64 o, .int .i64 h, .int .i64 am, .bool pu]] w fun e w' => e = .returned (.int .i64 2) ∧ Below w.heap.size w w' := by
  have hd' := hd.out
  have hk : inB 2 0 2 = true := by decide
  go_enter Try.func71, Try.ntmps71
  go_wp2_with (first | (go_at_call 33; ((with_reducible refine (baseWithin_any _ _ _ _).mono ?_)); rintro e w' ⟨rfl, rfl⟩))
  go_ret
  exact ⟨rfl, belA⟩
set_option maxHeartbeats 1000000 in
set_option maxRecDepth 100000 in
theorem alr_2R2 (d o h am : Int) (fr tz : ByteArray) (pu : Bool) (w : World) (hF : Hid (firE [rngE d 0 100000, rngE am 1 1000000000] = 2)) (hd : Hid (inB d 0 100000 = true)) (ha : Hid (inB am 1 1000000000 = false)) : Calls Try.prog 71 #[.agg #[.int .i64 2, .int .i64 d, .string fr, .string tz, .int .i64 o, .int .i64 h, .int .i64 am, .bool pu]] w fun e w' => e = .returned (.int .i64 2) ∧ Below w.heap.size w w' := by
  have hd' := hd.out
  have ha' := ha.out
  have hk : inB 2 0 2 = true := by decide
  go_enter Try.func71, Try.ntmps71
  go_wp2_with (first | (go_at_call 33; ((with_reducible refine (baseWithin_any _ _ _ _).mono ?_)); rintro e w' ⟨rfl, rfl⟩))
  go_ret
  exact ⟨rfl, belA⟩
set_option maxHeartbeats 1000000 in
set_option maxRecDepth 100000 in
theorem alr_2Z1 (d o h am : Int) (fr tz : ByteArray) (pu : Bool) (w : World) (hF : Hid (firE [rngE d 0 100000, rngE am 1 1000000000] = 0)) (hd : Hid (inB d 0 100000 = true)) (ha : Hid (inB am 1 1000000000 = true)) (g : Int) (hG : Hid (gasE o h = g)) (ho : ¬ o = 0) : Calls Try.prog 71 #[.agg #[.int .i64 2, .int .i64 d, .string fr, .string tz, .int .i64 o, .int .i64 h, .int .i64 am, .bool pu]] w fun e w' => e = .returned (.int .i64 2) ∧ Below w.heap.size w w' := by
  have hd' := hd.out
  have ha' := ha.out
  have ho2 : (o == 0) = false := by simpa using ho
  have hk : inB 2 0 2 = true := by decide
  rcases ez2b g with ⟨hg0, hg⟩ | ⟨hg0, hg⟩
  · go_enter Try.func71, Try.ntmps71
    go_wp2_with (first | (go_at_call 33; ((with_reducible refine (baseWithin_any _ _ _ _).mono ?_)); rintro e w' ⟨rfl, rfl⟩) | (go_at_call 79; ((with_reducible refine (refCheckGas_y o h g _ hG).mono ?_)); rintro e w1 ⟨rfl, hbw⟩; obtain ⟨hbc, hbf⟩ := bcell hbw; have hbs := hbw.size))
    go_ret
    exact ⟨rfl, belA⟩
  · go_enter Try.func71, Try.ntmps71
    go_wp2_with (first | (go_at_call 33; ((with_reducible refine (baseWithin_any _ _ _ _).mono ?_)); rintro e w' ⟨rfl, rfl⟩) | (go_at_call 79; ((with_reducible refine (refCheckGas_y o h g _ hG).mono ?_)); rintro e w1 ⟨rfl, hbw⟩; obtain ⟨hbc, hbf⟩ := bcell hbw; have hbs := hbw.size))
    go_ret
    exact ⟨rfl, belA⟩
set_option maxHeartbeats 1000000 in
set_option maxRecDepth 100000 in
theorem alr_2Z2 (d o h am : Int) (fr tz : ByteArray) (pu : Bool) (w : World) (hF : Hid (firE [rngE d 0 100000, rngE am 1 1000000000] = 0)) (hd : Hid (inB d 0 100000 = true)) (ha : Hid (inB am 1 1000000000 = true)) (g : Int) (hG : Hid (gasE 0 h = g)) (ho : ¬ h = 0) : Calls Try.prog 71 #[.agg #[.int .i64 2, .int .i64 d, .string fr, .string tz, .int .i64 0, .int .i64 h, .int .i64 am, .bool pu]] w fun e w' => e = .returned (.int .i64 2) ∧ Below w.heap.size w w' := by
  have hd' := hd.out
  have ha' := ha.out
  have ho2 : (h == 0) = false := by simpa using ho
  have hk : inB 2 0 2 = true := by decide
  rcases ez2b g with ⟨hg0, hg⟩ | ⟨hg0, hg⟩
  · go_enter Try.func71, Try.ntmps71
    go_wp2_with (first | (go_at_call 33; ((with_reducible refine (baseWithin_any _ _ _ _).mono ?_)); rintro e w' ⟨rfl, rfl⟩) | (go_at_call 79; ((with_reducible refine (refCheckGas_y 0 h g _ hG).mono ?_)); rintro e w1 ⟨rfl, hbw⟩; obtain ⟨hbc, hbf⟩ := bcell hbw; have hbs := hbw.size))
    go_ret
    exact ⟨rfl, belA⟩
  · go_enter Try.func71, Try.ntmps71
    go_wp2_with (first | (go_at_call 33; ((with_reducible refine (baseWithin_any _ _ _ _).mono ?_)); rintro e w' ⟨rfl, rfl⟩) | (go_at_call 79; ((with_reducible refine (refCheckGas_y 0 h g _ hG).mono ?_)); rintro e w1 ⟨rfl, hbw⟩; obtain ⟨hbc, hbf⟩ := bcell hbw; have hbs := hbw.size))
    go_ret
    exact ⟨rfl, belA⟩
set_option maxHeartbeats 1000000 in
set_option maxRecDepth 100000 in
theorem alr_2F1 (d o h am : Int) (fr tz : ByteArray) (pu : Bool) (w : World) (hF : Hid (firE [rngE d 0 100000, rngE am 1 1000000000] = 0)) (hd : Hid (inB d 0 100000 = true)) (ha : Hid (inB am 1 1000000000 = true)) (hG : Hid (gasE 0 0 = 0)) (hs : tz.size ≠ 0) : Calls Try.prog 71 #[.agg #[.int .i64 2, .int .i64 d, .string fr, .string tz, .int .i64 0, .int .i64 0, .int .i64 am, .bool pu]] w fun e w' => e = .returned (.int .i64 3) ∧ Below w.heap.size w w' := by
  have hd' := hd.out
  have ha' := ha.out
  obtain ⟨e1, e2, e3, e4⟩ := nemp hs
  have hk : inB 2 0 2 = true := by decide
  go_enter Try.func71, Try.ntmps71
  go_wp2_with (first | (go_at_call 33; ((with_reducible refine (baseWithin_any _ _ _ _).mono ?_)); rintro e w' ⟨rfl, rfl⟩) | (go_at_call 79; ((with_reducible refine (refCheckGas_y 0 0 0 _ hG).mono ?_)); rintro e w1 ⟨rfl, hbw⟩; obtain ⟨hbc, hbf⟩ := bcell hbw; have hbs := hbw.size))
  go_ret
  exact ⟨rfl, belA⟩
set_option maxHeartbeats 1000000 in
set_option maxRecDepth 100000 in
theorem alr_2F2 (d o h am : Int) (fr tz : ByteArray) (pu : Bool) (w : World) (hF : Hid (firE [rngE d 0 100000, rngE am 1 1000000000] = 0)) (hd : Hid (inB d 0 100000 = true)) (ha : Hid (inB am 1 1000000000 = true)) (hG : Hid (gasE 0 0 = 0)) : Calls Try.prog 71 #[.agg #[.int .i64 2, .int .i64 d, .string fr, .string ⟨#[]⟩, .int .i64 0, .int .i64 0, .int .i64 am, .bool true]] w fun e w' => e = .returned (.int .i64 3) ∧ Below w.heap.size w w' := by
  have hd' := hd.out
  have ha' := ha.out
  have hk : inB 2 0 2 = true := by decide
  go_enter Try.func71, Try.ntmps71
  go_wp2_with (first | (go_at_call 33; ((with_reducible refine (baseWithin_any _ _ _ _).mono ?_)); rintro e w' ⟨rfl, rfl⟩) | (go_at_call 79; ((with_reducible refine (refCheckGas_y 0 0 0 _ hG).mono ?_)); rintro e w1 ⟨rfl, hbw⟩; obtain ⟨hbc, hbf⟩ := bcell hbw; have hbs := hbw.size))
  go_ret
  exact ⟨rfl, belA⟩
set_option maxHeartbeats 1000000 in
set_option maxRecDepth 100000 in
theorem alr_2OK (d o h am : Int) (fr tz : ByteArray) (pu : Bool) (w : World) (hF : Hid (firE [rngE d 0 100000, rngE am 1 1000000000] = 0)) (hd : Hid (inB d 0 100000 = true)) (ha : Hid (inB am 1 1000000000 = true)) (hG : Hid (gasE 0 0 = 0)) : Calls Try.prog 71 #[.agg #[.int .i64 2, .int .i64 d, .string fr, .string ⟨#[]⟩, .int .i64 0, .int .i64 0, .int .i64 am, .bool false]] w fun e w' => e = .returned (.int .i64 0) ∧ Below w.heap.size w w' := by
  have hd' := hd.out
  have ha' := ha.out
  have hk : inB 2 0 2 = true := by decide
  go_enter Try.func71, Try.ntmps71
  go_wp2_with (first | (go_at_call 33; ((with_reducible refine (baseWithin_any _ _ _ _).mono ?_)); rintro e w' ⟨rfl, rfl⟩) | (go_at_call 79; ((with_reducible refine (refCheckGas_y 0 0 0 _ hG).mono ?_)); rintro e w1 ⟨rfl, hbw⟩; obtain ⟨hbc, hbf⟩ := bcell hbw; have hbs := hbw.size))
  go_ret
  exact ⟨rfl, belA⟩
theorem alr_any (k d o h am E : Int) (fr tz : ByteArray) (pu : Bool) (w : World) (hE : Hid (alnE k d fr tz o h am pu = E)) : Calls Try.prog 71 #[.agg #[.int .i64 k, .int .i64 d, .string fr, .string tz, .int .i64 o, .int .i64 h, .int .i64 am, .bool pu]] w fun e w' => e = .returned (.int .i64 E) ∧ Below w.heap.size w w' := by
  have he := hE.out
  unfold alnE at he
  by_cases hk : k = 0 ∨ k = 1 ∨ k = 2
  · rw [if_pos hk] at he
    have f0 : ∀ x a b : Int, rngE x a b = 0 ∨ rngE x a b = 2 := fun x a b => by rcases inB_cases x a b with h | h; exact Or.inl (rngE_t h); exact Or.inr (rngE_f h)
    have f2 := fir2 (f0 d 0 100000) (f0 am 1 1000000000)
    rcases inB_cases d 0 100000 with hd | hd
    · rcases inB_cases am 1 1000000000 with ha | ha
      · rw [if_pos ⟨hd, ha⟩] at he
        have hF := f2.1 ⟨rngE_t hd, rngE_t ha⟩
        rcases hk with rfl | rfl | rfl
        · by_cases hG : gasE o h = 0
          · rw [if_pos ⟨hG, Or.inl rfl⟩] at he
            by_cases hs : fr.size = 0
            · obtain rfl := emp_of hs
              cases pu with
              | true => rw [if_pos (by simp)] at he; subst he; exact alr_0F2 d o h am ⟨#[]⟩ tz true w (Lib.hid hF) (Lib.hid hd) (Lib.hid ha) (Lib.hid hG)
              | false => rw [if_neg (fun hx => by rcases hx with hx | hx | hx | hx; exact hx.2 hs; exact absurd hx.1 (by omega); exact absurd hx.1 (by omega); exact absurd hx.1 (by simp))] at he; subst he; exact alr_0OK d o h am ⟨#[]⟩ tz false w (Lib.hid hF) (Lib.hid hd) (Lib.hid ha) (Lib.hid hG)
            · rw [if_pos (Or.inl ⟨rfl, hs⟩)] at he; subst he; exact alr_0F1 d o h am fr tz pu w (Lib.hid hF) (Lib.hid hd) (Lib.hid ha) (Lib.hid hG) hs
          · rw [if_neg (fun hh => hG hh.1)] at he; subst he; exact alr_0G d o h am fr tz pu w (Lib.hid hF) (Lib.hid hd) (Lib.hid ha) _ (Lib.hid rfl) (by simpa using hG)
        · by_cases ho : o = 0
          · by_cases hh : h = 0
            · subst ho hh
              rw [if_pos ⟨rfl, Or.inr ⟨rfl, rfl⟩⟩] at he
              by_cases hs : fr = tz
              · subst hs
                rw [if_pos (by simp)] at he; subst he; exact alr_1F1 d 0 0 am fr fr pu w (Lib.hid hF) (Lib.hid hd) (Lib.hid ha) (Lib.hid rfl)
              · rw [if_neg (by intro hx; rcases hx with hx | hx | hx | hx; exact absurd hx.1 (by omega); exact absurd hx.1 (by omega); exact hs (baEq hx.2); exact absurd rfl hx.2)] at he; subst he; (cases pu with | true => exact alr_1OKt d 0 0 am fr tz true w (Lib.hid hF) (Lib.hid hd) (Lib.hid ha) (Lib.hid rfl) hs | false => exact alr_1OKf d 0 0 am fr tz false w (Lib.hid hF) (Lib.hid hd) (Lib.hid ha) (Lib.hid rfl) hs)
            · subst ho
              rw [if_neg (fun hx => by rcases hx.2 with hx | hx; omega; exact hh hx.2)] at he; subst he; exact alr_1Z2 d 0 h am fr tz pu w (Lib.hid hF) (Lib.hid hd) (Lib.hid ha) _ (Lib.hid rfl) hh
          · rw [if_neg (fun hx => by rcases hx.2 with hx | hx; omega; exact ho hx.1)] at he; subst he; exact alr_1Z1 d o h am fr tz pu w (Lib.hid hF) (Lib.hid hd) (Lib.hid ha) _ (Lib.hid rfl) ho
        · by_cases ho : o = 0
          · by_cases hh : h = 0
            · subst ho hh
              rw [if_pos ⟨rfl, Or.inr ⟨rfl, rfl⟩⟩] at he
              by_cases hs : tz.size = 0
              · obtain rfl := emp_of hs
                cases pu with
                | true => rw [if_pos (by simp)] at he; subst he; exact alr_2F2 d 0 0 am fr ⟨#[]⟩ true w (Lib.hid hF) (Lib.hid hd) (Lib.hid ha) (Lib.hid rfl)
                | false => rw [if_neg (fun hx => by rcases hx with hx | hx | hx | hx; exact absurd hx.1 (by omega); exact hx.2 hs; exact absurd hx.1 (by omega); exact absurd hx.1 (by simp))] at he; subst he; exact alr_2OK d 0 0 am fr ⟨#[]⟩ false w (Lib.hid hF) (Lib.hid hd) (Lib.hid ha) (Lib.hid rfl)
              · rw [if_pos (Or.inr (Or.inl ⟨rfl, hs⟩))] at he; subst he; exact alr_2F1 d 0 0 am fr tz pu w (Lib.hid hF) (Lib.hid hd) (Lib.hid ha) (Lib.hid rfl) hs
            · subst ho
              rw [if_neg (fun hx => by rcases hx.2 with hx | hx; omega; exact hh hx.2)] at he; subst he; exact alr_2Z2 d 0 h am fr tz pu w (Lib.hid hF) (Lib.hid hd) (Lib.hid ha) _ (Lib.hid rfl) hh
          · rw [if_neg (fun hx => by rcases hx.2 with hx | hx; omega; exact ho hx.1)] at he; subst he; exact alr_2Z1 d o h am fr tz pu w (Lib.hid hF) (Lib.hid hd) (Lib.hid ha) _ (Lib.hid rfl) ho
      · rw [if_neg (fun hh => by rw [ha] at hh; exact Bool.false_ne_true hh.2)] at he
        subst he
        have hF := f2.2 (fun hh => by rw [rngE_f ha] at hh; omega)
        rcases hk with rfl | rfl | rfl
        · exact alr_0R2 d o h am fr tz pu w (Lib.hid hF) (Lib.hid hd) (Lib.hid ha)
        · exact alr_1R2 d o h am fr tz pu w (Lib.hid hF) (Lib.hid hd) (Lib.hid ha)
        · exact alr_2R2 d o h am fr tz pu w (Lib.hid hF) (Lib.hid hd) (Lib.hid ha)
    · rw [if_neg (fun hh => by rw [hd] at hh; exact Bool.false_ne_true hh.1)] at he
      subst he
      have hF := f2.2 (fun hh => by rw [rngE_f hd] at hh; omega)
      rcases hk with rfl | rfl | rfl
      · exact alr_0R1 d o h am fr tz pu w (Lib.hid hF) (Lib.hid hd)
      · exact alr_1R1 d o h am fr tz pu w (Lib.hid hF) (Lib.hid hd)
      · exact alr_2R1 d o h am fr tz pu w (Lib.hid hF) (Lib.hid hd)
  · rw [if_neg hk] at he
    subst he
    exact alr_kind k d o h am fr tz pu w (fun e => hk (Or.inl e)) (fun e => hk (Or.inr (Or.inl e))) (fun e => hk (Or.inr (Or.inr e)))
end Go.Proofs.Ytjkhjjmmkdfjmaa
