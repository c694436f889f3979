import Derived.Test.YtjkhjjmmkdfjmaaGTPos
import Derived.Test.YtjkhjjmmkdfjmaaGTFRoom3
import Derived.Outline
namespace Go.Proofs.Ytjkhjjmmkdfjmaa
open Go.ChangeShapes Go.WideShapes Go.ChangeAt Go.RowKit
set_option linter.unusedVariables false
set_option linter.unusedSimpArgs false
attribute [local go_sem ↓] Go.wp_at_zero Go.wp_at_succ
theorem soff {w : World} {b i j : Nat} {v : Value} (h : i ≠ j) : (w.setCell ⟨b, i, none⟩ v).cell? ⟨b, j, none⟩ = w.cell? ⟨b, j, none⟩ := World.cell?_setCell_other _ _ _ _ (by simp [h])
theorem sblk {w : World} {c b i j : Nat} {v : Value} (h : c ≠ b) : (w.setCell ⟨c, i, none⟩ v).cell? ⟨b, j, none⟩ = w.cell? ⟨b, j, none⟩ := World.cell?_setCell_far _ _ _ _ h
theorem vessel_at (H : List Hd) (b cap n q p : Nat) (s : ByteArray) (g h i j k l dy : Int) (w : World) (hn : Hid (n = H.length)) (hl : n ≤ 1000000) (hlt : b < w.heap.size) (hL : RowsAt hdV 6 w b 0 H) (hq : Hid (q < n)) (hE : Hid (fndV s (H.map hdS) = q)) (hp : Hid (q * 6 = p)) :
    Calls Try.prog 96 #[.agg #[.slice (some ⟨b, 0, none⟩) n cap, .int .i64 g, .int .i64 h, .int .i64 i, .int .i64 j, .int .i64 k, .int .i64 l, .int .i64 dy], .string s] w fun e w' => e = .returned (.pointer (some ⟨b, p, none⟩)) ∧ Below w.heap.size w w' := by
  rw [← hp.out]
  exact vessel_some H b cap n q s g h i j k l dy w hn hl hlt (Lib.hid hL) hq.out hE
theorem vessel_no (H : List Hd) (A : Option Addr) (cap n : Nat) (s : ByteArray) (g h i j k l dy : Int) (w w0 : World) (N : Nat) (hn : Hid (n = H.length)) (hl : n ≤ 1000000) (hL : Hid (H = [] ∨ ∃ b, A = some ⟨b, 0, none⟩ ∧ b < N ∧ RowsAt hdV 6 w0 b 0 H)) (hB : Below N w0 w) (hN : N ≤ w.heap.size) (hE : Hid (fndV s (H.map hdS) = -1)) :
    Calls Try.prog 96 #[.agg #[.slice A n cap, .int .i64 g, .int .i64 h, .int .i64 i, .int .i64 j, .int .i64 k, .int .i64 l, .int .i64 dy], .string s] w fun e w' => e = .returned (.pointer none) ∧ Below w.heap.size w w' :=
  vessel_none H A cap n s g h i j k l dy w hn hl (Lib.hid (by rcases hL.out with h | ⟨b, e, hlt, hR⟩; exact Or.inl h; exact Or.inr ⟨b, e, by omega, hR.below hB hlt⟩)) hE
theorem pos_1 (rb vb pa pb : Nat) (d am o h day : Int) (fr tz sa sb : ByteArray) (pu : Bool) (va ma a0 a1 a2 SA vo mo b0 b1 b2 SB E : Int) (w : World) (hE : Hid (pos1 d day am pu SA va SB vo mo = E)) (r7 : w.cell? ⟨rb, 7, none⟩ = some (.int .i64 day)) (xa0 : w.cell? ⟨vb, pa, none⟩ = some (.string sa)) (xa1 : w.cell? ⟨vb, pa + 1, none⟩ = some (.int .i64 va)) (xa2 : w.cell? ⟨vb, pa + 2, none⟩ = some (.int .i64 ma)) (xa3 : w.cell? ⟨vb, pa + 3, none⟩ = some (.int .i64 a0)) (xa4 : w.cell? ⟨vb, pa + 4, none⟩ = some (.int .i64 a1)) (xa5 : w.cell? ⟨vb, pa + 5, none⟩ = some (.int .i64 a2)) (xb0 : w.cell? ⟨vb, pb, none⟩ = some (.string sb)) (xb1 : w.cell? ⟨vb, pb + 1, none⟩ = some (.int .i64 vo)) (xb2 : w.cell? ⟨vb, pb + 2, none⟩ = some (.int .i64 mo)) (xb3 : w.cell? ⟨vb, pb + 3, none⟩ = some (.int .i64 b0)) (xb4 : w.cell? ⟨vb, pb + 4, none⟩ = some (.int .i64 b1)) (xb5 : w.cell? ⟨vb, pb + 5, none⟩ = some (.int .i64 b2)) (hcA : Hid (conB a0 a1 a2 = true)) (hSA : Hid (a0 + a1 + a2 = SA)) (u1 : 1 ≤ va) (u2 : va ≤ 1000000000) (hcB : Hid (conB b0 b1 b2 = true)) (hSB : Hid (b0 + b1 + b2 = SB)) (v1 : 1 ≤ vo) (v2 : vo ≤ 1000000000) (m1 : 1 ≤ mo) (m2 : mo ≤ 1000000000) (am1 : 1 ≤ am) (am2 : am ≤ 1000000000) (lv : vb < w.heap.size) (lr : rb < w.heap.size) : Calls Try.prog 97 #[.pointer (some ⟨rb, 0, none⟩), .agg #[.int .i64 1, .int .i64 d, .string fr, .string tz, .int .i64 o, .int .i64 h, .int .i64 am, .bool pu], .pointer (some ⟨vb, pa, none⟩), .pointer (some ⟨vb, pb, none⟩)] w fun e w' => e = .returned (.int .i64 E) ∧ Below w.heap.size w w' := by
  cases pu with
  | true => exact pos_1t rb vb pa pb d am o h day fr tz sa sb true va ma a0 a1 a2 SA vo mo b0 b1 b2 SB E w hE r7 xa0 xa1 xa2 xa3 xa4 xa5 xb0 xb1 xb2 xb3 xb4 xb5 hcA hSA u1 u2 hcB hSB v1 v2 m1 m2 am1 am2 lv lr
  | false => exact pos_1f rb vb pa pb d am o h day fr tz sa sb false va ma a0 a1 a2 SA vo mo b0 b1 b2 SB E w hE r7 xa0 xa1 xa2 xa3 xa4 xa5 xb0 xb1 xb2 xb3 xb4 xb5 hcA hSA u1 u2 hcB hSB v1 v2 m1 m2 am1 am2 lv lr
set_option maxHeartbeats 1000000 in
theorem add_alone (rb : Nat) (k d o h am E : Int) (fr tz : ByteArray) (pu : Bool) (w : World) (hE : Hid (alnE k d fr tz o h am pu = E)) (hz : (E != 0) = true) : Calls Try.prog 65 #[.pointer (some ⟨rb, 0, none⟩), .agg #[.int .i64 k, .int .i64 d, .string fr, .string tz, .int .i64 o, .int .i64 h, .int .i64 am, .bool pu]] w fun e w' => e = .returned (.int .i64 E) ∧ Below w.heap.size w w' := by
  go_enter Try.func65, Try.ntmps65
  go_wp2_with fail
  refine (alp_any k d o h am E fr tz pu _ hE).mono ?_
  rintro e x1 ⟨rfl, hb1⟩
  go_wp2
  go_ret
  exact ⟨rfl, belA⟩
set_option maxHeartbeats 8000000 in
set_option maxRecDepth 100000 in
theorem add_m0 (rb vb n cap : Nat) (A : Option Addr) (H : List Hd) (d o h am g0 g1 g2 k0 k1 k2 day : Int) (fr tz : ByteArray) (pu : Bool) (w : World) (hn : Hid (n = H.length)) (hl : n ≤ 1000000) (r0 : w.cell? ⟨rb, 0, none⟩ = some (.slice A n cap)) (r1 : w.cell? ⟨rb, 1, none⟩ = some (.int .i64 g0)) (r2 : w.cell? ⟨rb, 2, none⟩ = some (.int .i64 g1)) (r3 : w.cell? ⟨rb, 3, none⟩ = some (.int .i64 g2)) (r4 : w.cell? ⟨rb, 4, none⟩ = some (.int .i64 k0)) (r5 : w.cell? ⟨rb, 5, none⟩ = some (.int .i64 k1)) (r6 : w.cell? ⟨rb, 6, none⟩ = some (.int .i64 k2)) (r7 : w.cell? ⟨rb, 7, none⟩ = some (.int .i64 day)) (lr : rb < w.heap.size) (hL : Hid (H = [] ∨ ∃ b, A = some ⟨b, 0, none⟩ ∧ b < w.heap.size ∧ RowsAt hdV 6 w b 0 H)) (hF : Hid (fndV ⟨#[]⟩ (H.map hdS) = -1)) (hT : Hid (fndV tz (H.map hdS) = -1)) (hA : Hid (alnE 0 d ⟨#[]⟩ tz o h am pu = 0)) : Calls Try.prog 65 #[.pointer (some ⟨rb, 0, none⟩), .agg #[.int .i64 0, .int .i64 d, .string ⟨#[]⟩, .string tz, .int .i64 o, .int .i64 h, .int .i64 am, .bool pu]] w fun e w' => e = .returned (.int .i64 6) ∧ Below w.heap.size w w' := by
  have o2 : rb ≠ w.heap.size := by omega
  have o4 : rb < w.heap.size + 1 := by omega
  go_enter Try.func65, Try.ntmps65
  go_wp2_with fail
  refine (alp_any 0 d o h am 0 ⟨#[]⟩ tz pu _ hA).mono ?_
  rintro e xw1 ⟨rfl, hbx1⟩
  have zx1 := hbx1.size
  try simp at zx1
  obtain ⟨x1A0, x1A1, x1A2, x1A3, x1A4, x1A5, x1A6, x1A7, x1B0, x1B1, x1B2, x1B3, x1B4, x1B5, x1B6, x1B7⟩ : xw1.cell? ⟨w.heap.size, 0, none⟩ = some (.int .i64 0) ∧ xw1.cell? ⟨w.heap.size, 1, none⟩ = some (.int .i64 d) ∧ xw1.cell? ⟨w.heap.size, 2, none⟩ = some (.string ⟨#[]⟩) ∧ xw1.cell? ⟨w.heap.size, 3, none⟩ = some (.string tz) ∧ xw1.cell? ⟨w.heap.size, 4, none⟩ = some (.int .i64 o) ∧ xw1.cell? ⟨w.heap.size, 5, none⟩ = some (.int .i64 h) ∧ xw1.cell? ⟨w.heap.size, 6, none⟩ = some (.int .i64 am) ∧ xw1.cell? ⟨w.heap.size, 7, none⟩ = some (.bool pu) ∧ xw1.cell? ⟨rb, 0, none⟩ = some (.slice A n cap) ∧ xw1.cell? ⟨rb, 1, none⟩ = some (.int .i64 g0) ∧ xw1.cell? ⟨rb, 2, none⟩ = some (.int .i64 g1) ∧ xw1.cell? ⟨rb, 3, none⟩ = some (.int .i64 g2) ∧ xw1.cell? ⟨rb, 4, none⟩ = some (.int .i64 k0) ∧ xw1.cell? ⟨rb, 5, none⟩ = some (.int .i64 k1) ∧ xw1.cell? ⟨rb, 6, none⟩ = some (.int .i64 k2) ∧ xw1.cell? ⟨rb, 7, none⟩ = some (.int .i64 day) := by refine ⟨?_, ?_, ?_, ?_, ?_, ?_, ?_, ?_, ?_, ?_, ?_, ?_, ?_, ?_, ?_, ?_⟩ <;> (rw [bc1 hbx1]; simp [go_sem, cP, *])
  obtain ⟨x1o0, x1n0, x1o1, x1n1⟩ : w.heap.size < xw1.heap.size ∧ xw1.heap.size ≠ w.heap.size ∧ rb < xw1.heap.size ∧ xw1.heap.size ≠ rb := by refine ⟨?_, ?_, ?_, ?_⟩ <;> omega
  have hBx1 : Below w.heap.size w xw1 := belA
  clear hbx1 
  go_upto_region 4 with (fail)
  refine wp_region_held_drew (S := (fun w' => w'.cell? ⟨w.heap.size, 0, none⟩ = some (.int .i64 0) ∧ w'.cell? ⟨w.heap.size, 1, none⟩ = some (.int .i64 d) ∧ w'.cell? ⟨w.heap.size, 2, none⟩ = some (.string ⟨#[]⟩) ∧ w'.cell? ⟨w.heap.size, 3, none⟩ = some (.string tz) ∧ w'.cell? ⟨w.heap.size, 4, none⟩ = some (.int .i64 o) ∧ w'.cell? ⟨w.heap.size, 5, none⟩ = some (.int .i64 h) ∧ w'.cell? ⟨w.heap.size, 6, none⟩ = some (.int .i64 am) ∧ w'.cell? ⟨w.heap.size, 7, none⟩ = some (.bool pu) ∧ w'.cell? ⟨rb, 0, none⟩ = some (.slice A n cap) ∧ w'.cell? ⟨rb, 1, none⟩ = some (.int .i64 g0) ∧ w'.cell? ⟨rb, 2, none⟩ = some (.int .i64 g1) ∧ w'.cell? ⟨rb, 3, none⟩ = some (.int .i64 g2) ∧ w'.cell? ⟨rb, 4, none⟩ = some (.int .i64 k0) ∧ w'.cell? ⟨rb, 5, none⟩ = some (.int .i64 k1) ∧ w'.cell? ⟨rb, 6, none⟩ = some (.int .i64 k2) ∧ w'.cell? ⟨rb, 7, none⟩ = some (.int .i64 day))) (by kernel_rfl) (by simp [go_sem, cP, *]) (fun hHeld => ?_)
  refine tkA 0 15 rfl ?_
  refine tkA 1 16 rfl ?_
  refine tkA 2 17 rfl ?_
  refine tkA 3 18 rfl ?_
  refine tkA 4 19 rfl ?_
  refine tkA 6 21 rfl ?_
  refine tkA 7 22 rfl ?_
  refine tkA 8 23 rfl ?_
  refine tkA 9 24 rfl ?_
  refine tkA 10 25 rfl ?_
  refine rdA 5 rfl (fun K hK => ?_)
  go_simp
  refine (vessel_no H A cap n ⟨#[]⟩ g0 g1 g2 k0 k1 k2 day _ w w.heap.size hn hl hL (by first | exact hBx1 | exact hBx1.drew) (by first | omega | (simp; omega)) hF).mono ?_
  rintro e xw2 ⟨rfl, hbx2⟩
  have zx2 := hbx2.size
  try simp at zx2
  obtain ⟨x2A0, x2A1, x2A2, x2A3, x2A4, x2A5, x2A6, x2A7, x2B0, x2B1, x2B2, x2B3, x2B4, x2B5, x2B6, x2B7⟩ : xw2.cell? ⟨w.heap.size, 0, none⟩ = some (.int .i64 0) ∧ xw2.cell? ⟨w.heap.size, 1, none⟩ = some (.int .i64 d) ∧ xw2.cell? ⟨w.heap.size, 2, none⟩ = some (.string ⟨#[]⟩) ∧ xw2.cell? ⟨w.heap.size, 3, none⟩ = some (.string tz) ∧ xw2.cell? ⟨w.heap.size, 4, none⟩ = some (.int .i64 o) ∧ xw2.cell? ⟨w.heap.size, 5, none⟩ = some (.int .i64 h) ∧ xw2.cell? ⟨w.heap.size, 6, none⟩ = some (.int .i64 am) ∧ xw2.cell? ⟨w.heap.size, 7, none⟩ = some (.bool pu) ∧ xw2.cell? ⟨rb, 0, none⟩ = some (.slice A n cap) ∧ xw2.cell? ⟨rb, 1, none⟩ = some (.int .i64 g0) ∧ xw2.cell? ⟨rb, 2, none⟩ = some (.int .i64 g1) ∧ xw2.cell? ⟨rb, 3, none⟩ = some (.int .i64 g2) ∧ xw2.cell? ⟨rb, 4, none⟩ = some (.int .i64 k0) ∧ xw2.cell? ⟨rb, 5, none⟩ = some (.int .i64 k1) ∧ xw2.cell? ⟨rb, 6, none⟩ = some (.int .i64 k2) ∧ xw2.cell? ⟨rb, 7, none⟩ = some (.int .i64 day) := by refine ⟨?_, ?_, ?_, ?_, ?_, ?_, ?_, ?_, ?_, ?_, ?_, ?_, ?_, ?_, ?_, ?_⟩ <;> (rw [bc1 hbx2]; simp [go_sem, cP, *])
  obtain ⟨x2o0, x2n0, x2o1, x2n1⟩ : w.heap.size < xw2.heap.size ∧ xw2.heap.size ≠ w.heap.size ∧ rb < xw2.heap.size ∧ xw2.heap.size ≠ rb := by refine ⟨?_, ?_, ?_, ?_⟩ <;> omega
  have hBx2 : Below w.heap.size w xw2 := belA
  clear hbx2 x1A0 x1A1 x1A2 x1A3 x1A4 x1A5 x1A6 x1A7 x1B0 x1B1 x1B2 x1B3 x1B4 x1B5 x1B6 x1B7 x1o0 x1n0 x1o1 x1n1 hBx1
  go_wp2_with fail
  refine hK.out _ _ (by simp [go_sem, cP, *]) (fun hHeld => ?_)
  clear hK K
  try simp only [Act.put, sA, sB, sC]
  refine rdA 11 rfl (fun K hK => ?_)
  go_simp
  refine (vessel_no H A cap n tz g0 g1 g2 k0 k1 k2 day _ w w.heap.size hn hl hL (by first | exact hBx2 | exact hBx2.drew) (by first | omega | (simp; omega)) hT).mono ?_
  rintro e xw3 ⟨rfl, hbx3⟩
  have zx3 := hbx3.size
  try simp at zx3
  obtain ⟨x3A0, x3A1, x3A2, x3A3, x3A4, x3A5, x3A6, x3A7, x3B0, x3B1, x3B2, x3B3, x3B4, x3B5, x3B6, x3B7⟩ : xw3.cell? ⟨w.heap.size, 0, none⟩ = some (.int .i64 0) ∧ xw3.cell? ⟨w.heap.size, 1, none⟩ = some (.int .i64 d) ∧ xw3.cell? ⟨w.heap.size, 2, none⟩ = some (.string ⟨#[]⟩) ∧ xw3.cell? ⟨w.heap.size, 3, none⟩ = some (.string tz) ∧ xw3.cell? ⟨w.heap.size, 4, none⟩ = some (.int .i64 o) ∧ xw3.cell? ⟨w.heap.size, 5, none⟩ = some (.int .i64 h) ∧ xw3.cell? ⟨w.heap.size, 6, none⟩ = some (.int .i64 am) ∧ xw3.cell? ⟨w.heap.size, 7, none⟩ = some (.bool pu) ∧ xw3.cell? ⟨rb, 0, none⟩ = some (.slice A n cap) ∧ xw3.cell? ⟨rb, 1, none⟩ = some (.int .i64 g0) ∧ xw3.cell? ⟨rb, 2, none⟩ = some (.int .i64 g1) ∧ xw3.cell? ⟨rb, 3, none⟩ = some (.int .i64 g2) ∧ xw3.cell? ⟨rb, 4, none⟩ = some (.int .i64 k0) ∧ xw3.cell? ⟨rb, 5, none⟩ = some (.int .i64 k1) ∧ xw3.cell? ⟨rb, 6, none⟩ = some (.int .i64 k2) ∧ xw3.cell? ⟨rb, 7, none⟩ = some (.int .i64 day) := by refine ⟨?_, ?_, ?_, ?_, ?_, ?_, ?_, ?_, ?_, ?_, ?_, ?_, ?_, ?_, ?_, ?_⟩ <;> (rw [bc1 hbx3]; simp [go_sem, cP, *])
  obtain ⟨x3o0, x3n0, x3o1, x3n1⟩ : w.heap.size < xw3.heap.size ∧ xw3.heap.size ≠ w.heap.size ∧ rb < xw3.heap.size ∧ xw3.heap.size ≠ rb := by refine ⟨?_, ?_, ?_, ?_⟩ <;> omega
  have hBx3 : Below w.heap.size w xw3 := belA
  clear hbx3 x2A0 x2A1 x2A2 x2A3 x2A4 x2A5 x2A6 x2A7 x2B0 x2B1 x2B2 x2B3 x2B4 x2B5 x2B6 x2B7 x2o0 x2n0 x2o1 x2n1 hBx2
  go_wp2_with fail
  refine hK.out _ _ (by simp [go_sem, cP, *]) (fun hHeld => ?_)
  clear hK K
  try simp only [Act.put, sA, sB, sC]
  refine tkA 12 6 rfl ?_
  refine tkA 13 7 rfl ?_
  refine wpAnyH_done (by kernel_rfl) ?_ _
  go_wp2_with fail
  refine (pos_m0 rb vb 0 d am o h ⟨#[]⟩ tz pu _).mono ?_
  rintro e xw4 ⟨rfl, hbx4⟩
  have zx4 := hbx4.size
  try simp at zx4
  obtain ⟨x4A0, x4A1, x4A2, x4A3, x4A4, x4A5, x4A6, x4A7, x4B0, x4B1, x4B2, x4B3, x4B4, x4B5, x4B6, x4B7⟩ : xw4.cell? ⟨w.heap.size, 0, none⟩ = some (.int .i64 0) ∧ xw4.cell? ⟨w.heap.size, 1, none⟩ = some (.int .i64 d) ∧ xw4.cell? ⟨w.heap.size, 2, none⟩ = some (.string ⟨#[]⟩) ∧ xw4.cell? ⟨w.heap.size, 3, none⟩ = some (.string tz) ∧ xw4.cell? ⟨w.heap.size, 4, none⟩ = some (.int .i64 o) ∧ xw4.cell? ⟨w.heap.size, 5, none⟩ = some (.int .i64 h) ∧ xw4.cell? ⟨w.heap.size, 6, none⟩ = some (.int .i64 am) ∧ xw4.cell? ⟨w.heap.size, 7, none⟩ = some (.bool pu) ∧ xw4.cell? ⟨rb, 0, none⟩ = some (.slice A n cap) ∧ xw4.cell? ⟨rb, 1, none⟩ = some (.int .i64 g0) ∧ xw4.cell? ⟨rb, 2, none⟩ = some (.int .i64 g1) ∧ xw4.cell? ⟨rb, 3, none⟩ = some (.int .i64 g2) ∧ xw4.cell? ⟨rb, 4, none⟩ = some (.int .i64 k0) ∧ xw4.cell? ⟨rb, 5, none⟩ = some (.int .i64 k1) ∧ xw4.cell? ⟨rb, 6, none⟩ = some (.int .i64 k2) ∧ xw4.cell? ⟨rb, 7, none⟩ = some (.int .i64 day) := by refine ⟨?_, ?_, ?_, ?_, ?_, ?_, ?_, ?_, ?_, ?_, ?_, ?_, ?_, ?_, ?_, ?_⟩ <;> (rw [bc1 hbx4]; simp [go_sem, cP, *])
  obtain ⟨x4o0, x4n0, x4o1, x4n1⟩ : w.heap.size < xw4.heap.size ∧ xw4.heap.size ≠ w.heap.size ∧ rb < xw4.heap.size ∧ xw4.heap.size ≠ rb := by refine ⟨?_, ?_, ?_, ?_⟩ <;> omega
  have hBx4 : Below w.heap.size w xw4 := belA
  clear hbx4 x3A0 x3A1 x3A2 x3A3 x3A4 x3A5 x3A6 x3A7 x3B0 x3B1 x3B2 x3B3 x3B4 x3B5 x3B6 x3B7 x3o0 x3n0 x3o1 x3n1 hBx3
  go_wp2
  go_ret
  exact ⟨rfl, belA⟩
set_option maxHeartbeats 8000000 in
set_option maxRecDepth 100000 in
theorem add_m1nn (rb vb n cap : Nat) (A : Option Addr) (H : List Hd) (d o h am g0 g1 g2 k0 k1 k2 day : Int) (fr tz : ByteArray) (pu : Bool) (w : World) (hn : Hid (n = H.length)) (hl : n ≤ 1000000) (r0 : w.cell? ⟨rb, 0, none⟩ = some (.slice A n cap)) (r1 : w.cell? ⟨rb, 1, none⟩ = some (.int .i64 g0)) (r2 : w.cell? ⟨rb, 2, none⟩ = some (.int .i64 g1)) (r3 : w.cell? ⟨rb, 3, none⟩ = some (.int .i64 g2)) (r4 : w.cell? ⟨rb, 4, none⟩ = some (.int .i64 k0)) (r5 : w.cell? ⟨rb, 5, none⟩ = some (.int .i64 k1)) (r6 : w.cell? ⟨rb, 6, none⟩ = some (.int .i64 k2)) (r7 : w.cell? ⟨rb, 7, none⟩ = some (.int .i64 day)) (lr : rb < w.heap.size) (hL : Hid (H = [] ∨ ∃ b, A = some ⟨b, 0, none⟩ ∧ b < w.heap.size ∧ RowsAt hdV 6 w b 0 H)) (hF : Hid (fndV fr (H.map hdS) = -1)) (hT : Hid (fndV tz (H.map hdS) = -1)) (hA : Hid (alnE 1 d fr tz 0 0 am pu = 0)) : Calls Try.prog 65 #[.pointer (some ⟨rb, 0, none⟩), .agg #[.int .i64 1, .int .i64 d, .string fr, .string tz, .int .i64 0, .int .i64 0, .int .i64 am, .bool pu]] w fun e w' => e = .returned (.int .i64 6) ∧ Below w.heap.size w w' := by
  have o2 : rb ≠ w.heap.size := by omega
  have o4 : rb < w.heap.size + 1 := by omega
  go_enter Try.func65, Try.ntmps65
  go_wp2_with fail
  refine (alp_any 1 d 0 0 am 0 fr tz pu _ hA).mono ?_
  rintro e xw1 ⟨rfl, hbx1⟩
  have zx1 := hbx1.size
  try simp at zx1
  obtain ⟨x1A0, x1A1, x1A2, x1A3, x1A4, x1A5, x1A6, x1A7, x1B0, x1B1, x1B2, x1B3, x1B4, x1B5, x1B6, x1B7⟩ : xw1.cell? ⟨w.heap.size, 0, none⟩ = some (.int .i64 1) ∧ xw1.cell? ⟨w.heap.size, 1, none⟩ = some (.int .i64 d) ∧ xw1.cell? ⟨w.heap.size, 2, none⟩ = some (.string fr) ∧ xw1.cell? ⟨w.heap.size, 3, none⟩ = some (.string tz) ∧ xw1.cell? ⟨w.heap.size, 4, none⟩ = some (.int .i64 0) ∧ xw1.cell? ⟨w.heap.size, 5, none⟩ = some (.int .i64 0) ∧ xw1.cell? ⟨w.heap.size, 6, none⟩ = some (.int .i64 am) ∧ xw1.cell? ⟨w.heap.size, 7, none⟩ = some (.bool pu) ∧ xw1.cell? ⟨rb, 0, none⟩ = some (.slice A n cap) ∧ xw1.cell? ⟨rb, 1, none⟩ = some (.int .i64 g0) ∧ xw1.cell? ⟨rb, 2, none⟩ = some (.int .i64 g1) ∧ xw1.cell? ⟨rb, 3, none⟩ = some (.int .i64 g2) ∧ xw1.cell? ⟨rb, 4, none⟩ = some (.int .i64 k0) ∧ xw1.cell? ⟨rb, 5, none⟩ = some (.int .i64 k1) ∧ xw1.cell? ⟨rb, 6, none⟩ = some (.int .i64 k2) ∧ xw1.cell? ⟨rb, 7, none⟩ = some (.int .i64 day) := by refine ⟨?_, ?_, ?_, ?_, ?_, ?_, ?_, ?_, ?_, ?_, ?_, ?_, ?_, ?_, ?_, ?_⟩ <;> (rw [bc1 hbx1]; simp [go_sem, cP, *])
  obtain ⟨x1o0, x1n0, x1o1, x1n1⟩ : w.heap.size < xw1.heap.size ∧ xw1.heap.size ≠ w.heap.size ∧ rb < xw1.heap.size ∧ xw1.heap.size ≠ rb := by refine ⟨?_, ?_, ?_, ?_⟩ <;> omega
  have hBx1 : Below w.heap.size w xw1 := belA
  clear hbx1 
  go_upto_region 4 with (fail)
  refine wp_region_held_drew (S := (fun w' => w'.cell? ⟨w.heap.size, 0, none⟩ = some (.int .i64 1) ∧ w'.cell? ⟨w.heap.size, 1, none⟩ = some (.int .i64 d) ∧ w'.cell? ⟨w.heap.size, 2, none⟩ = some (.string fr) ∧ w'.cell? ⟨w.heap.size, 3, none⟩ = some (.string tz) ∧ w'.cell? ⟨w.heap.size, 4, none⟩ = some (.int .i64 0) ∧ w'.cell? ⟨w.heap.size, 5, none⟩ = some (.int .i64 0) ∧ w'.cell? ⟨w.heap.size, 6, none⟩ = some (.int .i64 am) ∧ w'.cell? ⟨w.heap.size, 7, none⟩ = some (.bool pu) ∧ w'.cell? ⟨rb, 0, none⟩ = some (.slice A n cap) ∧ w'.cell? ⟨rb, 1, none⟩ = some (.int .i64 g0) ∧ w'.cell? ⟨rb, 2, none⟩ = some (.int .i64 g1) ∧ w'.cell? ⟨rb, 3, none⟩ = some (.int .i64 g2) ∧ w'.cell? ⟨rb, 4, none⟩ = some (.int .i64 k0) ∧ w'.cell? ⟨rb, 5, none⟩ = some (.int .i64 k1) ∧ w'.cell? ⟨rb, 6, none⟩ = some (.int .i64 k2) ∧ w'.cell? ⟨rb, 7, none⟩ = some (.int .i64 day))) (by kernel_rfl) (by simp [go_sem, cP, *]) (fun hHeld => ?_)
  refine tkA 0 15 rfl ?_
  refine tkA 1 16 rfl ?_
  refine tkA 2 17 rfl ?_
  refine tkA 3 18 rfl ?_
  refine tkA 4 19 rfl ?_
  refine tkA 6 21 rfl ?_
  refine tkA 7 22 rfl ?_
  refine tkA 8 23 rfl ?_
  refine tkA 9 24 rfl ?_
  refine tkA 10 25 rfl ?_
  refine rdA 5 rfl (fun K hK => ?_)
  go_simp
  refine (vessel_no H A cap n fr g0 g1 g2 k0 k1 k2 day _ w w.heap.size hn hl hL (by first | exact hBx1 | exact hBx1.drew) (by first | omega | (simp; omega)) hF).mono ?_
  rintro e xw2 ⟨rfl, hbx2⟩
  have zx2 := hbx2.size
  try simp at zx2
  obtain ⟨x2A0, x2A1, x2A2, x2A3, x2A4, x2A5, x2A6, x2A7, x2B0, x2B1, x2B2, x2B3, x2B4, x2B5, x2B6, x2B7⟩ : xw2.cell? ⟨w.heap.size, 0, none⟩ = some (.int .i64 1) ∧ xw2.cell? ⟨w.heap.size, 1, none⟩ = some (.int .i64 d) ∧ xw2.cell? ⟨w.heap.size, 2, none⟩ = some (.string fr) ∧ xw2.cell? ⟨w.heap.size, 3, none⟩ = some (.string tz) ∧ xw2.cell? ⟨w.heap.size, 4, none⟩ = some (.int .i64 0) ∧ xw2.cell? ⟨w.heap.size, 5, none⟩ = some (.int .i64 0) ∧ xw2.cell? ⟨w.heap.size, 6, none⟩ = some (.int .i64 am) ∧ xw2.cell? ⟨w.heap.size, 7, none⟩ = some (.bool pu) ∧ xw2.cell? ⟨rb, 0, none⟩ = some (.slice A n cap) ∧ xw2.cell? ⟨rb, 1, none⟩ = some (.int .i64 g0) ∧ xw2.cell? ⟨rb, 2, none⟩ = some (.int .i64 g1) ∧ xw2.cell? ⟨rb, 3, none⟩ = some (.int .i64 g2) ∧ xw2.cell? ⟨rb, 4, none⟩ = some (.int .i64 k0) ∧ xw2.cell? ⟨rb, 5, none⟩ = some (.int .i64 k1) ∧ xw2.cell? ⟨rb, 6, none⟩ = some (.int .i64 k2) ∧ xw2.cell? ⟨rb, 7, none⟩ = some (.int .i64 day) := by refine ⟨?_, ?_, ?_, ?_, ?_, ?_, ?_, ?_, ?_, ?_, ?_, ?_, ?_, ?_, ?_, ?_⟩ <;> (rw [bc1 hbx2]; simp [go_sem, cP, *])
  obtain ⟨x2o0, x2n0, x2o1, x2n1⟩ : w.heap.size < xw2.heap.size ∧ xw2.heap.size ≠ w.heap.size ∧ rb < xw2.heap.size ∧ xw2.heap.size ≠ rb := by refine ⟨?_, ?_, ?_, ?_⟩ <;> omega
  have hBx2 : Below w.heap.size w xw2 := belA
  clear hbx2 x1A0 x1A1 x1A2 x1A3 x1A4 x1A5 x1A6 x1A7 x1B0 x1B1 x1B2 x1B3 x1B4 x1B5 x1B6 x1B7 x1o0 x1n0 x1o1 x1n1 hBx1
  go_wp2_with fail
  refine hK.out _ _ (by simp [go_sem, cP, *]) (fun hHeld => ?_)
  clear hK K
  try simp only [Act.put, sA, sB, sC]
  refine rdA 11 rfl (fun K hK => ?_)
  go_simp
  refine (vessel_no H A cap n tz g0 g1 g2 k0 k1 k2 day _ w w.heap.size hn hl hL (by first | exact hBx2 | exact hBx2.drew) (by first | omega | (simp; omega)) hT).mono ?_
  rintro e xw3 ⟨rfl, hbx3⟩
  have zx3 := hbx3.size
  try simp at zx3
  obtain ⟨x3A0, x3A1, x3A2, x3A3, x3A4, x3A5, x3A6, x3A7, x3B0, x3B1, x3B2, x3B3, x3B4, x3B5, x3B6, x3B7⟩ : xw3.cell? ⟨w.heap.size, 0, none⟩ = some (.int .i64 1) ∧ xw3.cell? ⟨w.heap.size, 1, none⟩ = some (.int .i64 d) ∧ xw3.cell? ⟨w.heap.size, 2, none⟩ = some (.string fr) ∧ xw3.cell? ⟨w.heap.size, 3, none⟩ = some (.string tz) ∧ xw3.cell? ⟨w.heap.size, 4, none⟩ = some (.int .i64 0) ∧ xw3.cell? ⟨w.heap.size, 5, none⟩ = some (.int .i64 0) ∧ xw3.cell? ⟨w.heap.size, 6, none⟩ = some (.int .i64 am) ∧ xw3.cell? ⟨w.heap.size, 7, none⟩ = some (.bool pu) ∧ xw3.cell? ⟨rb, 0, none⟩ = some (.slice A n cap) ∧ xw3.cell? ⟨rb, 1, none⟩ = some (.int .i64 g0) ∧ xw3.cell? ⟨rb, 2, none⟩ = some (.int .i64 g1) ∧ xw3.cell? ⟨rb, 3, none⟩ = some (.int .i64 g2) ∧ xw3.cell? ⟨rb, 4, none⟩ = some (.int .i64 k0) ∧ xw3.cell? ⟨rb, 5, none⟩ = some (.int .i64 k1) ∧ xw3.cell? ⟨rb, 6, none⟩ = some (.int .i64 k2) ∧ xw3.cell? ⟨rb, 7, none⟩ = some (.int .i64 day) := by refine ⟨?_, ?_, ?_, ?_, ?_, ?_, ?_, ?_, ?_, ?_, ?_, ?_, ?_, ?_, ?_, ?_⟩ <;> (rw [bc1 hbx3]; simp [go_sem, cP, *])
  obtain ⟨x3o0, x3n0, x3o1, x3n1⟩ : w.heap.size < xw3.heap.size ∧ xw3.heap.size ≠ w.heap.size ∧ rb < xw3.heap.size ∧ xw3.heap.size ≠ rb := by refine ⟨?_, ?_, ?_, ?_⟩ <;> omega
  have hBx3 : Below w.heap.size w xw3 := belA
  clear hbx3 x2A0 x2A1 x2A2 x2A3 x2A4 x2A5 x2A6 x2A7 x2B0 x2B1 x2B2 x2B3 x2B4 x2B5 x2B6 x2B7 x2o0 x2n0 x2o1 x2n1 hBx2
  go_wp2_with fail
  refine hK.out _ _ (by simp [go_sem, cP, *]) (fun hHeld => ?_)
  clear hK K
  try simp only [Act.put, sA, sB, sC]
  refine tkA 12 6 rfl ?_
  refine tkA 13 7 rfl ?_
  refine wpAnyH_done (by kernel_rfl) ?_ _
  go_wp2_with fail
  refine (pos_m1 rb vb 0 d am 0 0 fr tz pu none _).mono ?_
  rintro e xw4 ⟨rfl, hbx4⟩
  have zx4 := hbx4.size
  try simp at zx4
  obtain ⟨x4A0, x4A1, x4A2, x4A3, x4A4, x4A5, x4A6, x4A7, x4B0, x4B1, x4B2, x4B3, x4B4, x4B5, x4B6, x4B7⟩ : xw4.cell? ⟨w.heap.size, 0, none⟩ = some (.int .i64 1) ∧ xw4.cell? ⟨w.heap.size, 1, none⟩ = some (.int .i64 d) ∧ xw4.cell? ⟨w.heap.size, 2, none⟩ = some (.string fr) ∧ xw4.cell? ⟨w.heap.size, 3, none⟩ = some (.string tz) ∧ xw4.cell? ⟨w.heap.size, 4, none⟩ = some (.int .i64 0) ∧ xw4.cell? ⟨w.heap.size, 5, none⟩ = some (.int .i64 0) ∧ xw4.cell? ⟨w.heap.size, 6, none⟩ = some (.int .i64 am) ∧ xw4.cell? ⟨w.heap.size, 7, none⟩ = some (.bool pu) ∧ xw4.cell? ⟨rb, 0, none⟩ = some (.slice A n cap) ∧ xw4.cell? ⟨rb, 1, none⟩ = some (.int .i64 g0) ∧ xw4.cell? ⟨rb, 2, none⟩ = some (.int .i64 g1) ∧ xw4.cell? ⟨rb, 3, none⟩ = some (.int .i64 g2) ∧ xw4.cell? ⟨rb, 4, none⟩ = some (.int .i64 k0) ∧ xw4.cell? ⟨rb, 5, none⟩ = some (.int .i64 k1) ∧ xw4.cell? ⟨rb, 6, none⟩ = some (.int .i64 k2) ∧ xw4.cell? ⟨rb, 7, none⟩ = some (.int .i64 day) := by refine ⟨?_, ?_, ?_, ?_, ?_, ?_, ?_, ?_, ?_, ?_, ?_, ?_, ?_, ?_, ?_, ?_⟩ <;> (rw [bc1 hbx4]; simp [go_sem, cP, *])
  obtain ⟨x4o0, x4n0, x4o1, x4n1⟩ : w.heap.size < xw4.heap.size ∧ xw4.heap.size ≠ w.heap.size ∧ rb < xw4.heap.size ∧ xw4.heap.size ≠ rb := by refine ⟨?_, ?_, ?_, ?_⟩ <;> omega
  have hBx4 : Below w.heap.size w xw4 := belA
  clear hbx4 x3A0 x3A1 x3A2 x3A3 x3A4 x3A5 x3A6 x3A7 x3B0 x3B1 x3B2 x3B3 x3B4 x3B5 x3B6 x3B7 x3o0 x3n0 x3o1 x3n1 hBx3
  go_wp2
  go_ret
  exact ⟨rfl, belA⟩
set_option maxHeartbeats 8000000 in
set_option maxRecDepth 100000 in
theorem add_m1ns (rb vb n cap : Nat) (A : Option Addr) (H : List Hd) (d o h am g0 g1 g2 k0 k1 k2 day : Int) (fr tz : ByteArray) (pu : Bool) (w : World) (hn : Hid (n = H.length)) (hl : n ≤ 1000000) (r0 : w.cell? ⟨rb, 0, none⟩ = some (.slice (some ⟨vb, 0, none⟩) n cap)) (r1 : w.cell? ⟨rb, 1, none⟩ = some (.int .i64 g0)) (r2 : w.cell? ⟨rb, 2, none⟩ = some (.int .i64 g1)) (r3 : w.cell? ⟨rb, 3, none⟩ = some (.int .i64 g2)) (r4 : w.cell? ⟨rb, 4, none⟩ = some (.int .i64 k0)) (r5 : w.cell? ⟨rb, 5, none⟩ = some (.int .i64 k1)) (r6 : w.cell? ⟨rb, 6, none⟩ = some (.int .i64 k2)) (r7 : w.cell? ⟨rb, 7, none⟩ = some (.int .i64 day)) (lr : rb < w.heap.size) (lv : vb < w.heap.size) (hR : Hid (RowsAt hdV 6 w vb 0 H)) (hF : Hid (fndV fr (H.map hdS) = -1)) (qb pb : Nat) (hqb : Hid (qb < n)) (hT : Hid (fndV tz (H.map hdS) = qb)) (hpb : Hid (qb * 6 = pb)) (hA : Hid (alnE 1 d fr tz 0 0 am pu = 0)) : Calls Try.prog 65 #[.pointer (some ⟨rb, 0, none⟩), .agg #[.int .i64 1, .int .i64 d, .string fr, .string tz, .int .i64 0, .int .i64 0, .int .i64 am, .bool pu]] w fun e w' => e = .returned (.int .i64 6) ∧ Below w.heap.size w w' := by
  have o1 : vb ≠ w.heap.size := by omega
  have o3 : vb < w.heap.size + 1 := by omega
  have o2 : rb ≠ w.heap.size := by omega
  have o4 : rb < w.heap.size + 1 := by omega
  go_enter Try.func65, Try.ntmps65
  go_wp2_with fail
  refine (alp_any 1 d 0 0 am 0 fr tz pu _ hA).mono ?_
  rintro e xw1 ⟨rfl, hbx1⟩
  have zx1 := hbx1.size
  try simp at zx1
  obtain ⟨x1A0, x1A1, x1A2, x1A3, x1A4, x1A5, x1A6, x1A7, x1B0, x1B1, x1B2, x1B3, x1B4, x1B5, x1B6, x1B7⟩ : xw1.cell? ⟨w.heap.size, 0, none⟩ = some (.int .i64 1) ∧ xw1.cell? ⟨w.heap.size, 1, none⟩ = some (.int .i64 d) ∧ xw1.cell? ⟨w.heap.size, 2, none⟩ = some (.string fr) ∧ xw1.cell? ⟨w.heap.size, 3, none⟩ = some (.string tz) ∧ xw1.cell? ⟨w.heap.size, 4, none⟩ = some (.int .i64 0) ∧ xw1.cell? ⟨w.heap.size, 5, none⟩ = some (.int .i64 0) ∧ xw1.cell? ⟨w.heap.size, 6, none⟩ = some (.int .i64 am) ∧ xw1.cell? ⟨w.heap.size, 7, none⟩ = some (.bool pu) ∧ xw1.cell? ⟨rb, 0, none⟩ = some (.slice (some ⟨vb, 0, none⟩) n cap) ∧ xw1.cell? ⟨rb, 1, none⟩ = some (.int .i64 g0) ∧ xw1.cell? ⟨rb, 2, none⟩ = some (.int .i64 g1) ∧ xw1.cell? ⟨rb, 3, none⟩ = some (.int .i64 g2) ∧ xw1.cell? ⟨rb, 4, none⟩ = some (.int .i64 k0) ∧ xw1.cell? ⟨rb, 5, none⟩ = some (.int .i64 k1) ∧ xw1.cell? ⟨rb, 6, none⟩ = some (.int .i64 k2) ∧ xw1.cell? ⟨rb, 7, none⟩ = some (.int .i64 day) := by refine ⟨?_, ?_, ?_, ?_, ?_, ?_, ?_, ?_, ?_, ?_, ?_, ?_, ?_, ?_, ?_, ?_⟩ <;> (rw [bc1 hbx1]; simp [go_sem, cP, *])
  obtain ⟨x1o0, x1n0, x1o1, x1n1⟩ : w.heap.size < xw1.heap.size ∧ xw1.heap.size ≠ w.heap.size ∧ rb < xw1.heap.size ∧ xw1.heap.size ≠ rb := by refine ⟨?_, ?_, ?_, ?_⟩ <;> omega
  have hBx1 : Below w.heap.size w xw1 := belA
  clear hbx1 
  go_upto_region 4 with (fail)
  refine wp_region_held_drew (S := (fun w' => w'.cell? ⟨w.heap.size, 0, none⟩ = some (.int .i64 1) ∧ w'.cell? ⟨w.heap.size, 1, none⟩ = some (.int .i64 d) ∧ w'.cell? ⟨w.heap.size, 2, none⟩ = some (.string fr) ∧ w'.cell? ⟨w.heap.size, 3, none⟩ = some (.string tz) ∧ w'.cell? ⟨w.heap.size, 4, none⟩ = some (.int .i64 0) ∧ w'.cell? ⟨w.heap.size, 5, none⟩ = some (.int .i64 0) ∧ w'.cell? ⟨w.heap.size, 6, none⟩ = some (.int .i64 am) ∧ w'.cell? ⟨w.heap.size, 7, none⟩ = some (.bool pu) ∧ w'.cell? ⟨rb, 0, none⟩ = some (.slice (some ⟨vb, 0, none⟩) n cap) ∧ w'.cell? ⟨rb, 1, none⟩ = some (.int .i64 g0) ∧ w'.cell? ⟨rb, 2, none⟩ = some (.int .i64 g1) ∧ w'.cell? ⟨rb, 3, none⟩ = some (.int .i64 g2) ∧ w'.cell? ⟨rb, 4, none⟩ = some (.int .i64 k0) ∧ w'.cell? ⟨rb, 5, none⟩ = some (.int .i64 k1) ∧ w'.cell? ⟨rb, 6, none⟩ = some (.int .i64 k2) ∧ w'.cell? ⟨rb, 7, none⟩ = some (.int .i64 day))) (by kernel_rfl) (by simp [go_sem, cP, *]) (fun hHeld => ?_)
  refine tkA 0 15 rfl ?_
  refine tkA 1 16 rfl ?_
  refine tkA 2 17 rfl ?_
  refine tkA 3 18 rfl ?_
  refine tkA 4 19 rfl ?_
  refine tkA 6 21 rfl ?_
  refine tkA 7 22 rfl ?_
  refine tkA 8 23 rfl ?_
  refine tkA 9 24 rfl ?_
  refine tkA 10 25 rfl ?_
  refine rdA 5 rfl (fun K hK => ?_)
  go_simp
  refine (vessel_no H (some ⟨vb, 0, none⟩) cap n fr g0 g1 g2 k0 k1 k2 day _ w w.heap.size hn hl (Lib.hid (Or.inr ⟨vb, rfl, lv, hR.out⟩)) (by first | exact hBx1 | exact hBx1.drew) (by first | omega | (simp; omega)) hF).mono ?_
  rintro e xw2 ⟨rfl, hbx2⟩
  have zx2 := hbx2.size
  try simp at zx2
  obtain ⟨x2A0, x2A1, x2A2, x2A3, x2A4, x2A5, x2A6, x2A7, x2B0, x2B1, x2B2, x2B3, x2B4, x2B5, x2B6, x2B7⟩ : xw2.cell? ⟨w.heap.size, 0, none⟩ = some (.int .i64 1) ∧ xw2.cell? ⟨w.heap.size, 1, none⟩ = some (.int .i64 d) ∧ xw2.cell? ⟨w.heap.size, 2, none⟩ = some (.string fr) ∧ xw2.cell? ⟨w.heap.size, 3, none⟩ = some (.string tz) ∧ xw2.cell? ⟨w.heap.size, 4, none⟩ = some (.int .i64 0) ∧ xw2.cell? ⟨w.heap.size, 5, none⟩ = some (.int .i64 0) ∧ xw2.cell? ⟨w.heap.size, 6, none⟩ = some (.int .i64 am) ∧ xw2.cell? ⟨w.heap.size, 7, none⟩ = some (.bool pu) ∧ xw2.cell? ⟨rb, 0, none⟩ = some (.slice (some ⟨vb, 0, none⟩) n cap) ∧ xw2.cell? ⟨rb, 1, none⟩ = some (.int .i64 g0) ∧ xw2.cell? ⟨rb, 2, none⟩ = some (.int .i64 g1) ∧ xw2.cell? ⟨rb, 3, none⟩ = some (.int .i64 g2) ∧ xw2.cell? ⟨rb, 4, none⟩ = some (.int .i64 k0) ∧ xw2.cell? ⟨rb, 5, none⟩ = some (.int .i64 k1) ∧ xw2.cell? ⟨rb, 6, none⟩ = some (.int .i64 k2) ∧ xw2.cell? ⟨rb, 7, none⟩ = some (.int .i64 day) := by refine ⟨?_, ?_, ?_, ?_, ?_, ?_, ?_, ?_, ?_, ?_, ?_, ?_, ?_, ?_, ?_, ?_⟩ <;> (rw [bc1 hbx2]; simp [go_sem, cP, *])
  obtain ⟨x2o0, x2n0, x2o1, x2n1⟩ : w.heap.size < xw2.heap.size ∧ xw2.heap.size ≠ w.heap.size ∧ rb < xw2.heap.size ∧ xw2.heap.size ≠ rb := by refine ⟨?_, ?_, ?_, ?_⟩ <;> omega
  have hBx2 : Below w.heap.size w xw2 := belA
  clear hbx2 x1A0 x1A1 x1A2 x1A3 x1A4 x1A5 x1A6 x1A7 x1B0 x1B1 x1B2 x1B3 x1B4 x1B5 x1B6 x1B7 x1o0 x1n0 x1o1 x1n1 hBx1
  go_wp2_with fail
  refine hK.out _ _ (by simp [go_sem, cP, *]) (fun hHeld => ?_)
  clear hK K
  try simp only [Act.put, sA, sB, sC]
  refine rdA 11 rfl (fun K hK => ?_)
  go_simp
  refine (vessel_at H vb cap n qb pb tz g0 g1 g2 k0 k1 k2 day _ hn hl (by first | omega | (simp; omega)) (hR.out.below (by first | exact hBx2 | exact hBx2.drew) lv) hqb hT hpb).mono ?_
  rintro e xw3 ⟨rfl, hbx3⟩
  have zx3 := hbx3.size
  try simp at zx3
  obtain ⟨x3A0, x3A1, x3A2, x3A3, x3A4, x3A5, x3A6, x3A7, x3B0, x3B1, x3B2, x3B3, x3B4, x3B5, x3B6, x3B7⟩ : xw3.cell? ⟨w.heap.size, 0, none⟩ = some (.int .i64 1) ∧ xw3.cell? ⟨w.heap.size, 1, none⟩ = some (.int .i64 d) ∧ xw3.cell? ⟨w.heap.size, 2, none⟩ = some (.string fr) ∧ xw3.cell? ⟨w.heap.size, 3, none⟩ = some (.string tz) ∧ xw3.cell? ⟨w.heap.size, 4, none⟩ = some (.int .i64 0) ∧ xw3.cell? ⟨w.heap.size, 5, none⟩ = some (.int .i64 0) ∧ xw3.cell? ⟨w.heap.size, 6, none⟩ = some (.int .i64 am) ∧ xw3.cell? ⟨w.heap.size, 7, none⟩ = some (.bool pu) ∧ xw3.cell? ⟨rb, 0, none⟩ = some (.slice (some ⟨vb, 0, none⟩) n cap) ∧ xw3.cell? ⟨rb, 1, none⟩ = some (.int .i64 g0) ∧ xw3.cell? ⟨rb, 2, none⟩ = some (.int .i64 g1) ∧ xw3.cell? ⟨rb, 3, none⟩ = some (.int .i64 g2) ∧ xw3.cell? ⟨rb, 4, none⟩ = some (.int .i64 k0) ∧ xw3.cell? ⟨rb, 5, none⟩ = some (.int .i64 k1) ∧ xw3.cell? ⟨rb, 6, none⟩ = some (.int .i64 k2) ∧ xw3.cell? ⟨rb, 7, none⟩ = some (.int .i64 day) := by refine ⟨?_, ?_, ?_, ?_, ?_, ?_, ?_, ?_, ?_, ?_, ?_, ?_, ?_, ?_, ?_, ?_⟩ <;> (rw [bc1 hbx3]; simp [go_sem, cP, *])
  obtain ⟨x3o0, x3n0, x3o1, x3n1⟩ : w.heap.size < xw3.heap.size ∧ xw3.heap.size ≠ w.heap.size ∧ rb < xw3.heap.size ∧ xw3.heap.size ≠ rb := by refine ⟨?_, ?_, ?_, ?_⟩ <;> omega
  have hBx3 : Below w.heap.size w xw3 := belA
  clear hbx3 x2A0 x2A1 x2A2 x2A3 x2A4 x2A5 x2A6 x2A7 x2B0 x2B1 x2B2 x2B3 x2B4 x2B5 x2B6 x2B7 x2o0 x2n0 x2o1 x2n1 hBx2
  go_wp2_with fail
  refine hK.out _ _ (by simp [go_sem, cP, *]) (fun hHeld => ?_)
  clear hK K
  try simp only [Act.put, sA, sB, sC]
  refine tkA 12 6 rfl ?_
  refine tkA 13 7 rfl ?_
  refine wpAnyH_done (by kernel_rfl) ?_ _
  go_wp2_with fail
  refine (pos_m1 rb vb 0 d am 0 0 fr tz pu (some ⟨vb, pb, none⟩) _).mono ?_
  rintro e xw4 ⟨rfl, hbx4⟩
  have zx4 := hbx4.size
  try simp at zx4
  obtain ⟨x4A0, x4A1, x4A2, x4A3, x4A4, x4A5, x4A6, x4A7, x4B0, x4B1, x4B2, x4B3, x4B4, x4B5, x4B6, x4B7⟩ : xw4.cell? ⟨w.heap.size, 0, none⟩ = some (.int .i64 1) ∧ xw4.cell? ⟨w.heap.size, 1, none⟩ = some (.int .i64 d) ∧ xw4.cell? ⟨w.heap.size, 2, none⟩ = some (.string fr) ∧ xw4.cell? ⟨w.heap.size, 3, none⟩ = some (.string tz) ∧ xw4.cell? ⟨w.heap.size, 4, none⟩ = some (.int .i64 0) ∧ xw4.cell? ⟨w.heap.size, 5, none⟩ = some (.int .i64 0) ∧ xw4.cell? ⟨w.heap.size, 6, none⟩ = some (.int .i64 am) ∧ xw4.cell? ⟨w.heap.size, 7, none⟩ = some (.bool pu) ∧ xw4.cell? ⟨rb, 0, none⟩ = some (.slice (some ⟨vb, 0, none⟩) n cap) ∧ xw4.cell? ⟨rb, 1, none⟩ = some (.int .i64 g0) ∧ xw4.cell? ⟨rb, 2, none⟩ = some (.int .i64 g1) ∧ xw4.cell? ⟨rb, 3, none⟩ = some (.int .i64 g2) ∧ xw4.cell? ⟨rb, 4, none⟩ = some (.int .i64 k0) ∧ xw4.cell? ⟨rb, 5, none⟩ = some (.int .i64 k1) ∧ xw4.cell? ⟨rb, 6, none⟩ = some (.int .i64 k2) ∧ xw4.cell? ⟨rb, 7, none⟩ = some (.int .i64 day) := by refine ⟨?_, ?_, ?_, ?_, ?_, ?_, ?_, ?_, ?_, ?_, ?_, ?_, ?_, ?_, ?_, ?_⟩ <;> (rw [bc1 hbx4]; simp [go_sem, cP, *])
  obtain ⟨x4o0, x4n0, x4o1, x4n1⟩ : w.heap.size < xw4.heap.size ∧ xw4.heap.size ≠ w.heap.size ∧ rb < xw4.heap.size ∧ xw4.heap.size ≠ rb := by refine ⟨?_, ?_, ?_, ?_⟩ <;> omega
  have hBx4 : Below w.heap.size w xw4 := belA
  clear hbx4 x3A0 x3A1 x3A2 x3A3 x3A4 x3A5 x3A6 x3A7 x3B0 x3B1 x3B2 x3B3 x3B4 x3B5 x3B6 x3B7 x3o0 x3n0 x3o1 x3n1 hBx3
  go_wp2
  go_ret
  exact ⟨rfl, belA⟩
set_option maxHeartbeats 8000000 in
set_option maxRecDepth 100000 in
theorem add_m1sn (rb vb n cap : Nat) (A : Option Addr) (H : List Hd) (d o h am g0 g1 g2 k0 k1 k2 day : Int) (fr tz : ByteArray) (pu : Bool) (w : World) (hn : Hid (n = H.length)) (hl : n ≤ 1000000) (r0 : w.cell? ⟨rb, 0, none⟩ = some (.slice (some ⟨vb, 0, none⟩) n cap)) (r1 : w.cell? ⟨rb, 1, none⟩ = some (.int .i64 g0)) (r2 : w.cell? ⟨rb, 2, none⟩ = some (.int .i64 g1)) (r3 : w.cell? ⟨rb, 3, none⟩ = some (.int .i64 g2)) (r4 : w.cell? ⟨rb, 4, none⟩ = some (.int .i64 k0)) (r5 : w.cell? ⟨rb, 5, none⟩ = some (.int .i64 k1)) (r6 : w.cell? ⟨rb, 6, none⟩ = some (.int .i64 k2)) (r7 : w.cell? ⟨rb, 7, none⟩ = some (.int .i64 day)) (lr : rb < w.heap.size) (lv : vb < w.heap.size) (hR : Hid (RowsAt hdV 6 w vb 0 H)) (qa pa : Nat) (hqa : Hid (qa < n)) (hF : Hid (fndV fr (H.map hdS) = qa)) (hpa : Hid (qa * 6 = pa)) (hT : Hid (fndV tz (H.map hdS) = -1)) (hA : Hid (alnE 1 d fr tz 0 0 am pu = 0)) : Calls Try.prog 65 #[.pointer (some ⟨rb, 0, none⟩), .agg #[.int .i64 1, .int .i64 d, .string fr, .string tz, .int .i64 0, .int .i64 0, .int .i64 am, .bool pu]] w fun e w' => e = .returned (.int .i64 6) ∧ Below w.heap.size w w' := by
  have o1 : vb ≠ w.heap.size := by omega
  have o3 : vb < w.heap.size + 1 := by omega
  have o2 : rb ≠ w.heap.size := by omega
  have o4 : rb < w.heap.size + 1 := by omega
  go_enter Try.func65, Try.ntmps65
  go_wp2_with fail
  refine (alp_any 1 d 0 0 am 0 fr tz pu _ hA).mono ?_
  rintro e xw1 ⟨rfl, hbx1⟩
  have zx1 := hbx1.size
  try simp at zx1
  obtain ⟨x1A0, x1A1, x1A2, x1A3, x1A4, x1A5, x1A6, x1A7, x1B0, x1B1, x1B2, x1B3, x1B4, x1B5, x1B6, x1B7⟩ : xw1.cell? ⟨w.heap.size, 0, none⟩ = some (.int .i64 1) ∧ xw1.cell? ⟨w.heap.size, 1, none⟩ = some (.int .i64 d) ∧ xw1.cell? ⟨w.heap.size, 2, none⟩ = some (.string fr) ∧ xw1.cell? ⟨w.heap.size, 3, none⟩ = some (.string tz) ∧ xw1.cell? ⟨w.heap.size, 4, none⟩ = some (.int .i64 0) ∧ xw1.cell? ⟨w.heap.size, 5, none⟩ = some (.int .i64 0) ∧ xw1.cell? ⟨w.heap.size, 6, none⟩ = some (.int .i64 am) ∧ xw1.cell? ⟨w.heap.size, 7, none⟩ = some (.bool pu) ∧ xw1.cell? ⟨rb, 0, none⟩ = some (.slice (some ⟨vb, 0, none⟩) n cap) ∧ xw1.cell? ⟨rb, 1, none⟩ = some (.int .i64 g0) ∧ xw1.cell? ⟨rb, 2, none⟩ = some (.int .i64 g1) ∧ xw1.cell? ⟨rb, 3, none⟩ = some (.int .i64 g2) ∧ xw1.cell? ⟨rb, 4, none⟩ = some (.int .i64 k0) ∧ xw1.cell? ⟨rb, 5, none⟩ = some (.int .i64 k1) ∧ xw1.cell? ⟨rb, 6, none⟩ = some (.int .i64 k2) ∧ xw1.cell? ⟨rb, 7, none⟩ = some (.int .i64 day) := by refine ⟨?_, ?_, ?_, ?_, ?_, ?_, ?_, ?_, ?_, ?_, ?_, ?_, ?_, ?_, ?_, ?_⟩ <;> (rw [bc1 hbx1]; simp [go_sem, cP, *])
  obtain ⟨x1o0, x1n0, x1o1, x1n1⟩ : w.heap.size < xw1.heap.size ∧ xw1.heap.size ≠ w.heap.size ∧ rb < xw1.heap.size ∧ xw1.heap.size ≠ rb := by refine ⟨?_, ?_, ?_, ?_⟩ <;> omega
  have hBx1 : Below w.heap.size w xw1 := belA
  clear hbx1 
  go_upto_region 4 with (fail)
  refine wp_region_held_drew (S := (fun w' => w'.cell? ⟨w.heap.size, 0, none⟩ = some (.int .i64 1) ∧ w'.cell? ⟨w.heap.size, 1, none⟩ = some (.int .i64 d) ∧ w'.cell? ⟨w.heap.size, 2, none⟩ = some (.string fr) ∧ w'.cell? ⟨w.heap.size, 3, none⟩ = some (.string tz) ∧ w'.cell? ⟨w.heap.size, 4, none⟩ = some (.int .i64 0) ∧ w'.cell? ⟨w.heap.size, 5, none⟩ = some (.int .i64 0) ∧ w'.cell? ⟨w.heap.size, 6, none⟩ = some (.int .i64 am) ∧ w'.cell? ⟨w.heap.size, 7, none⟩ = some (.bool pu) ∧ w'.cell? ⟨rb, 0, none⟩ = some (.slice (some ⟨vb, 0, none⟩) n cap) ∧ w'.cell? ⟨rb, 1, none⟩ = some (.int .i64 g0) ∧ w'.cell? ⟨rb, 2, none⟩ = some (.int .i64 g1) ∧ w'.cell? ⟨rb, 3, none⟩ = some (.int .i64 g2) ∧ w'.cell? ⟨rb, 4, none⟩ = some (.int .i64 k0) ∧ w'.cell? ⟨rb, 5, none⟩ = some (.int .i64 k1) ∧ w'.cell? ⟨rb, 6, none⟩ = some (.int .i64 k2) ∧ w'.cell? ⟨rb, 7, none⟩ = some (.int .i64 day))) (by kernel_rfl) (by simp [go_sem, cP, *]) (fun hHeld => ?_)
  refine tkA 0 15 rfl ?_
  refine tkA 1 16 rfl ?_
  refine tkA 2 17 rfl ?_
  refine tkA 3 18 rfl ?_
  refine tkA 4 19 rfl ?_
  refine tkA 6 21 rfl ?_
  refine tkA 7 22 rfl ?_
  refine tkA 8 23 rfl ?_
  refine tkA 9 24 rfl ?_
  refine tkA 10 25 rfl ?_
  refine rdA 5 rfl (fun K hK => ?_)
  go_simp
  refine (vessel_at H vb cap n qa pa fr g0 g1 g2 k0 k1 k2 day _ hn hl (by first | omega | (simp; omega)) (hR.out.below (by first | exact hBx1 | exact hBx1.drew) lv) hqa hF hpa).mono ?_
  rintro e xw2 ⟨rfl, hbx2⟩
  have zx2 := hbx2.size
  try simp at zx2
  obtain ⟨x2A0, x2A1, x2A2, x2A3, x2A4, x2A5, x2A6, x2A7, x2B0, x2B1, x2B2, x2B3, x2B4, x2B5, x2B6, x2B7⟩ : xw2.cell? ⟨w.heap.size, 0, none⟩ = some (.int .i64 1) ∧ xw2.cell? ⟨w.heap.size, 1, none⟩ = some (.int .i64 d) ∧ xw2.cell? ⟨w.heap.size, 2, none⟩ = some (.string fr) ∧ xw2.cell? ⟨w.heap.size, 3, none⟩ = some (.string tz) ∧ xw2.cell? ⟨w.heap.size, 4, none⟩ = some (.int .i64 0) ∧ xw2.cell? ⟨w.heap.size, 5, none⟩ = some (.int .i64 0) ∧ xw2.cell? ⟨w.heap.size, 6, none⟩ = some (.int .i64 am) ∧ xw2.cell? ⟨w.heap.size, 7, none⟩ = some (.bool pu) ∧ xw2.cell? ⟨rb, 0, none⟩ = some (.slice (some ⟨vb, 0, none⟩) n cap) ∧ xw2.cell? ⟨rb, 1, none⟩ = some (.int .i64 g0) ∧ xw2.cell? ⟨rb, 2, none⟩ = some (.int .i64 g1) ∧ xw2.cell? ⟨rb, 3, none⟩ = some (.int .i64 g2) ∧ xw2.cell? ⟨rb, 4, none⟩ = some (.int .i64 k0) ∧ xw2.cell? ⟨rb, 5, none⟩ = some (.int .i64 k1) ∧ xw2.cell? ⟨rb, 6, none⟩ = some (.int .i64 k2) ∧ xw2.cell? ⟨rb, 7, none⟩ = some (.int .i64 day) := by refine ⟨?_, ?_, ?_, ?_, ?_, ?_, ?_, ?_, ?_, ?_, ?_, ?_, ?_, ?_, ?_, ?_⟩ <;> (rw [bc1 hbx2]; simp [go_sem, cP, *])
  obtain ⟨x2o0, x2n0, x2o1, x2n1⟩ : w.heap.size < xw2.heap.size ∧ xw2.heap.size ≠ w.heap.size ∧ rb < xw2.heap.size ∧ xw2.heap.size ≠ rb := by refine ⟨?_, ?_, ?_, ?_⟩ <;> omega
  have hBx2 : Below w.heap.size w xw2 := belA
  clear hbx2 x1A0 x1A1 x1A2 x1A3 x1A4 x1A5 x1A6 x1A7 x1B0 x1B1 x1B2 x1B3 x1B4 x1B5 x1B6 x1B7 x1o0 x1n0 x1o1 x1n1 hBx1
  go_wp2_with fail
  refine hK.out _ _ (by simp [go_sem, cP, *]) (fun hHeld => ?_)
  clear hK K
  try simp only [Act.put, sA, sB, sC]
  refine rdA 11 rfl (fun K hK => ?_)
  go_simp
  refine (vessel_no H (some ⟨vb, 0, none⟩) cap n tz g0 g1 g2 k0 k1 k2 day _ w w.heap.size hn hl (Lib.hid (Or.inr ⟨vb, rfl, lv, hR.out⟩)) (by first | exact hBx2 | exact hBx2.drew) (by first | omega | (simp; omega)) hT).mono ?_
  rintro e xw3 ⟨rfl, hbx3⟩
  have zx3 := hbx3.size
  try simp at zx3
  obtain ⟨x3A0, x3A1, x3A2, x3A3, x3A4, x3A5, x3A6, x3A7, x3B0, x3B1, x3B2, x3B3, x3B4, x3B5, x3B6, x3B7⟩ : xw3.cell? ⟨w.heap.size, 0, none⟩ = some (.int .i64 1) ∧ xw3.cell? ⟨w.heap.size, 1, none⟩ = some (.int .i64 d) ∧ xw3.cell? ⟨w.heap.size, 2, none⟩ = some (.string fr) ∧ xw3.cell? ⟨w.heap.size, 3, none⟩ = some (.string tz) ∧ xw3.cell? ⟨w.heap.size, 4, none⟩ = some (.int .i64 0) ∧ xw3.cell? ⟨w.heap.size, 5, none⟩ = some (.int .i64 0) ∧ xw3.cell? ⟨w.heap.size, 6, none⟩ = some (.int .i64 am) ∧ xw3.cell? ⟨w.heap.size, 7, none⟩ = some (.bool pu) ∧ xw3.cell? ⟨rb, 0, none⟩ = some (.slice (some ⟨vb, 0, none⟩) n cap) ∧ xw3.cell? ⟨rb, 1, none⟩ = some (.int .i64 g0) ∧ xw3.cell? ⟨rb, 2, none⟩ = some (.int .i64 g1) ∧ xw3.cell? ⟨rb, 3, none⟩ = some (.int .i64 g2) ∧ xw3.cell? ⟨rb, 4, none⟩ = some (.int .i64 k0) ∧ xw3.cell? ⟨rb, 5, none⟩ = some (.int .i64 k1) ∧ xw3.cell? ⟨rb, 6, none⟩ = some (.int .i64 k2) ∧ xw3.cell? ⟨rb, 7, none⟩ = some (.int .i64 day) := by refine ⟨?_, ?_, ?_, ?_, ?_, ?_, ?_, ?_, ?_, ?_, ?_, ?_, ?_, ?_, ?_, ?_⟩ <;> (rw [bc1 hbx3]; simp [go_sem, cP, *])
  obtain ⟨x3o0, x3n0, x3o1, x3n1⟩ : w.heap.size < xw3.heap.size ∧ xw3.heap.size ≠ w.heap.size ∧ rb < xw3.heap.size ∧ xw3.heap.size ≠ rb := by refine ⟨?_, ?_, ?_, ?_⟩ <;> omega
  have hBx3 : Below w.heap.size w xw3 := belA
  clear hbx3 x2A0 x2A1 x2A2 x2A3 x2A4 x2A5 x2A6 x2A7 x2B0 x2B1 x2B2 x2B3 x2B4 x2B5 x2B6 x2B7 x2o0 x2n0 x2o1 x2n1 hBx2
  go_wp2_with fail
  refine hK.out _ _ (by simp [go_sem, cP, *]) (fun hHeld => ?_)
  clear hK K
  try simp only [Act.put, sA, sB, sC]
  refine tkA 12 6 rfl ?_
  refine tkA 13 7 rfl ?_
  refine wpAnyH_done (by kernel_rfl) ?_ _
  go_wp2_with fail
  refine (pos_m1b rb vb pa d am 0 0 fr tz pu _).mono ?_
  rintro e xw4 ⟨rfl, hbx4⟩
  have zx4 := hbx4.size
  try simp at zx4
  obtain ⟨x4A0, x4A1, x4A2, x4A3, x4A4, x4A5, x4A6, x4A7, x4B0, x4B1, x4B2, x4B3, x4B4, x4B5, x4B6, x4B7⟩ : xw4.cell? ⟨w.heap.size, 0, none⟩ = some (.int .i64 1) ∧ xw4.cell? ⟨w.heap.size, 1, none⟩ = some (.int .i64 d) ∧ xw4.cell? ⟨w.heap.size, 2, none⟩ = some (.string fr) ∧ xw4.cell? ⟨w.heap.size, 3, none⟩ = some (.string tz) ∧ xw4.cell? ⟨w.heap.size, 4, none⟩ = some (.int .i64 0) ∧ xw4.cell? ⟨w.heap.size, 5, none⟩ = some (.int .i64 0) ∧ xw4.cell? ⟨w.heap.size, 6, none⟩ = some (.int .i64 am) ∧ xw4.cell? ⟨w.heap.size, 7, none⟩ = some (.bool pu) ∧ xw4.cell? ⟨rb, 0, none⟩ = some (.slice (some ⟨vb, 0, none⟩) n cap) ∧ xw4.cell? ⟨rb, 1, none⟩ = some (.int .i64 g0) ∧ xw4.cell? ⟨rb, 2, none⟩ = some (.int .i64 g1) ∧ xw4.cell? ⟨rb, 3, none⟩ = some (.int .i64 g2) ∧ xw4.cell? ⟨rb, 4, none⟩ = some (.int .i64 k0) ∧ xw4.cell? ⟨rb, 5, none⟩ = some (.int .i64 k1) ∧ xw4.cell? ⟨rb, 6, none⟩ = some (.int .i64 k2) ∧ xw4.cell? ⟨rb, 7, none⟩ = some (.int .i64 day) := by refine ⟨?_, ?_, ?_, ?_, ?_, ?_, ?_, ?_, ?_, ?_, ?_, ?_, ?_, ?_, ?_, ?_⟩ <;> (rw [bc1 hbx4]; simp [go_sem, cP, *])
  obtain ⟨x4o0, x4n0, x4o1, x4n1⟩ : w.heap.size < xw4.heap.size ∧ xw4.heap.size ≠ w.heap.size ∧ rb < xw4.heap.size ∧ xw4.heap.size ≠ rb := by refine ⟨?_, ?_, ?_, ?_⟩ <;> omega
  have hBx4 : Below w.heap.size w xw4 := belA
  clear hbx4 x3A0 x3A1 x3A2 x3A3 x3A4 x3A5 x3A6 x3A7 x3B0 x3B1 x3B2 x3B3 x3B4 x3B5 x3B6 x3B7 x3o0 x3n0 x3o1 x3n1 hBx3
  go_wp2
  go_ret
  exact ⟨rfl, belA⟩
set_option maxHeartbeats 8000000 in
set_option maxRecDepth 100000 in
theorem add_m2 (rb vb n cap : Nat) (A : Option Addr) (H : List Hd) (d o h am g0 g1 g2 k0 k1 k2 day : Int) (fr tz : ByteArray) (pu : Bool) (w : World) (hn : Hid (n = H.length)) (hl : n ≤ 1000000) (r0 : w.cell? ⟨rb, 0, none⟩ = some (.slice A n cap)) (r1 : w.cell? ⟨rb, 1, none⟩ = some (.int .i64 g0)) (r2 : w.cell? ⟨rb, 2, none⟩ = some (.int .i64 g1)) (r3 : w.cell? ⟨rb, 3, none⟩ = some (.int .i64 g2)) (r4 : w.cell? ⟨rb, 4, none⟩ = some (.int .i64 k0)) (r5 : w.cell? ⟨rb, 5, none⟩ = some (.int .i64 k1)) (r6 : w.cell? ⟨rb, 6, none⟩ = some (.int .i64 k2)) (r7 : w.cell? ⟨rb, 7, none⟩ = some (.int .i64 day)) (lr : rb < w.heap.size) (hL : Hid (H = [] ∨ ∃ b, A = some ⟨b, 0, none⟩ ∧ b < w.heap.size ∧ RowsAt hdV 6 w b 0 H)) (hF : Hid (fndV fr (H.map hdS) = -1)) (hT : Hid (fndV ⟨#[]⟩ (H.map hdS) = -1)) (hA : Hid (alnE 2 d fr ⟨#[]⟩ 0 0 am pu = 0)) : Calls Try.prog 65 #[.pointer (some ⟨rb, 0, none⟩), .agg #[.int .i64 2, .int .i64 d, .string fr, .string ⟨#[]⟩, .int .i64 0, .int .i64 0, .int .i64 am, .bool pu]] w fun e w' => e = .returned (.int .i64 6) ∧ Below w.heap.size w w' := by
  have o2 : rb ≠ w.heap.size := by omega
  have o4 : rb < w.heap.size + 1 := by omega
  go_enter Try.func65, Try.ntmps65
  go_wp2_with fail
  refine (alp_any 2 d 0 0 am 0 fr ⟨#[]⟩ pu _ hA).mono ?_
  rintro e xw1 ⟨rfl, hbx1⟩
  have zx1 := hbx1.size
  try simp at zx1
  obtain ⟨x1A0, x1A1, x1A2, x1A3, x1A4, x1A5, x1A6, x1A7, x1B0, x1B1, x1B2, x1B3, x1B4, x1B5, x1B6, x1B7⟩ : xw1.cell? ⟨w.heap.size, 0, none⟩ = some (.int .i64 2) ∧ xw1.cell? ⟨w.heap.size, 1, none⟩ = some (.int .i64 d) ∧ xw1.cell? ⟨w.heap.size, 2, none⟩ = some (.string fr) ∧ xw1.cell? ⟨w.heap.size, 3, none⟩ = some (.string ⟨#[]⟩) ∧ xw1.cell? ⟨w.heap.size, 4, none⟩ = some (.int .i64 0) ∧ xw1.cell? ⟨w.heap.size, 5, none⟩ = some (.int .i64 0) ∧ xw1.cell? ⟨w.heap.size, 6, none⟩ = some (.int .i64 am) ∧ xw1.cell? ⟨w.heap.size, 7, none⟩ = some (.bool pu) ∧ xw1.cell? ⟨rb, 0, none⟩ = some (.slice A n cap) ∧ xw1.cell? ⟨rb, 1, none⟩ = some (.int .i64 g0) ∧ xw1.cell? ⟨rb, 2, none⟩ = some (.int .i64 g1) ∧ xw1.cell? ⟨rb, 3, none⟩ = some (.int .i64 g2) ∧ xw1.cell? ⟨rb, 4, none⟩ = some (.int .i64 k0) ∧ xw1.cell? ⟨rb, 5, none⟩ = some (.int .i64 k1) ∧ xw1.cell? ⟨rb, 6, none⟩ = some (.int .i64 k2) ∧ xw1.cell? ⟨rb, 7, none⟩ = some (.int .i64 day) := by refine ⟨?_, ?_, ?_, ?_, ?_, ?_, ?_, ?_, ?_, ?_, ?_, ?_, ?_, ?_, ?_, ?_⟩ <;> (rw [bc1 hbx1]; simp [go_sem, cP, *])
  obtain ⟨x1o0, x1n0, x1o1, x1n1⟩ : w.heap.size < xw1.heap.size ∧ xw1.heap.size ≠ w.heap.size ∧ rb < xw1.heap.size ∧ xw1.heap.size ≠ rb := by refine ⟨?_, ?_, ?_, ?_⟩ <;> omega
  have hBx1 : Below w.heap.size w xw1 := belA
  clear hbx1 
  go_upto_region 4 with (fail)
  refine wp_region_held_drew (S := (fun w' => w'.cell? ⟨w.heap.size, 0, none⟩ = some (.int .i64 2) ∧ w'.cell? ⟨w.heap.size, 1, none⟩ = some (.int .i64 d) ∧ w'.cell? ⟨w.heap.size, 2, none⟩ = some (.string fr) ∧ w'.cell? ⟨w.heap.size, 3, none⟩ = some (.string ⟨#[]⟩) ∧ w'.cell? ⟨w.heap.size, 4, none⟩ = some (.int .i64 0) ∧ w'.cell? ⟨w.heap.size, 5, none⟩ = some (.int .i64 0) ∧ w'.cell? ⟨w.heap.size, 6, none⟩ = some (.int .i64 am) ∧ w'.cell? ⟨w.heap.size, 7, none⟩ = some (.bool pu) ∧ w'.cell? ⟨rb, 0, none⟩ = some (.slice A n cap) ∧ w'.cell? ⟨rb, 1, none⟩ = some (.int .i64 g0) ∧ w'.cell? ⟨rb, 2, none⟩ = some (.int .i64 g1) ∧ w'.cell? ⟨rb, 3, none⟩ = some (.int .i64 g2) ∧ w'.cell? ⟨rb, 4, none⟩ = some (.int .i64 k0) ∧ w'.cell? ⟨rb, 5, none⟩ = some (.int .i64 k1) ∧ w'.cell? ⟨rb, 6, none⟩ = some (.int .i64 k2) ∧ w'.cell? ⟨rb, 7, none⟩ = some (.int .i64 day))) (by kernel_rfl) (by simp [go_sem, cP, *]) (fun hHeld => ?_)
  refine tkA 0 15 rfl ?_
  refine tkA 1 16 rfl ?_
  refine tkA 2 17 rfl ?_
  refine tkA 3 18 rfl ?_
  refine tkA 4 19 rfl ?_
  refine tkA 6 21 rfl ?_
  refine tkA 7 22 rfl ?_
  refine tkA 8 23 rfl ?_
  refine tkA 9 24 rfl ?_
  refine tkA 10 25 rfl ?_
  refine rdA 5 rfl (fun K hK => ?_)
  go_simp
  refine (vessel_no H A cap n fr g0 g1 g2 k0 k1 k2 day _ w w.heap.size hn hl hL (by first | exact hBx1 | exact hBx1.drew) (by first | omega | (simp; omega)) hF).mono ?_
  rintro e xw2 ⟨rfl, hbx2⟩
  have zx2 := hbx2.size
  try simp at zx2
  obtain ⟨x2A0, x2A1, x2A2, x2A3, x2A4, x2A5, x2A6, x2A7, x2B0, x2B1, x2B2, x2B3, x2B4, x2B5, x2B6, x2B7⟩ : xw2.cell? ⟨w.heap.size, 0, none⟩ = some (.int .i64 2) ∧ xw2.cell? ⟨w.heap.size, 1, none⟩ = some (.int .i64 d) ∧ xw2.cell? ⟨w.heap.size, 2, none⟩ = some (.string fr) ∧ xw2.cell? ⟨w.heap.size, 3, none⟩ = some (.string ⟨#[]⟩) ∧ xw2.cell? ⟨w.heap.size, 4, none⟩ = some (.int .i64 0) ∧ xw2.cell? ⟨w.heap.size, 5, none⟩ = some (.int .i64 0) ∧ xw2.cell? ⟨w.heap.size, 6, none⟩ = some (.int .i64 am) ∧ xw2.cell? ⟨w.heap.size, 7, none⟩ = some (.bool pu) ∧ xw2.cell? ⟨rb, 0, none⟩ = some (.slice A n cap) ∧ xw2.cell? ⟨rb, 1, none⟩ = some (.int .i64 g0) ∧ xw2.cell? ⟨rb, 2, none⟩ = some (.int .i64 g1) ∧ xw2.cell? ⟨rb, 3, none⟩ = some (.int .i64 g2) ∧ xw2.cell? ⟨rb, 4, none⟩ = some (.int .i64 k0) ∧ xw2.cell? ⟨rb, 5, none⟩ = some (.int .i64 k1) ∧ xw2.cell? ⟨rb, 6, none⟩ = some (.int .i64 k2) ∧ xw2.cell? ⟨rb, 7, none⟩ = some (.int .i64 day) := by refine ⟨?_, ?_, ?_, ?_, ?_, ?_, ?_, ?_, ?_, ?_, ?_, ?_, ?_, ?_, ?_, ?_⟩ <;> (rw [bc1 hbx2]; simp [go_sem, cP, *])
  obtain ⟨x2o0, x2n0, x2o1, x2n1⟩ : w.heap.size < xw2.heap.size ∧ xw2.heap.size ≠ w.heap.size ∧ rb < xw2.heap.size ∧ xw2.heap.size ≠ rb := by refine ⟨?_, ?_, ?_, ?_⟩ <;> omega
  have hBx2 : Below w.heap.size w xw2 := belA
  clear hbx2 x1A0 x1A1 x1A2 x1A3 x1A4 x1A5 x1A6 x1A7 x1B0 x1B1 x1B2 x1B3 x1B4 x1B5 x1B6 x1B7 x1o0 x1n0 x1o1 x1n1 hBx1
  go_wp2_with fail
  refine hK.out _ _ (by simp [go_sem, cP, *]) (fun hHeld => ?_)
  clear hK K
  try simp only [Act.put, sA, sB, sC]
  refine rdA 11 rfl (fun K hK => ?_)
  go_simp
  refine (vessel_no H A cap n ⟨#[]⟩ g0 g1 g2 k0 k1 k2 day _ w w.heap.size hn hl hL (by first | exact hBx2 | exact hBx2.drew) (by first | omega | (simp; omega)) hT).mono ?_
  rintro e xw3 ⟨rfl, hbx3⟩
  have zx3 := hbx3.size
  try simp at zx3
  obtain ⟨x3A0, x3A1, x3A2, x3A3, x3A4, x3A5, x3A6, x3A7, x3B0, x3B1, x3B2, x3B3, x3B4, x3B5, x3B6, x3B7⟩ : xw3.cell? ⟨w.heap.size, 0, none⟩ = some (.int .i64 2) ∧ xw3.cell? ⟨w.heap.size, 1, none⟩ = some (.int .i64 d) ∧ xw3.cell? ⟨w.heap.size, 2, none⟩ = some (.string fr) ∧ xw3.cell? ⟨w.heap.size, 3, none⟩ = some (.string ⟨#[]⟩) ∧ xw3.cell? ⟨w.heap.size, 4, none⟩ = some (.int .i64 0) ∧ xw3.cell? ⟨w.heap.size, 5, none⟩ = some (.int .i64 0) ∧ xw3.cell? ⟨w.heap.size, 6, none⟩ = some (.int .i64 am) ∧ xw3.cell? ⟨w.heap.size, 7, none⟩ = some (.bool pu) ∧ xw3.cell? ⟨rb, 0, none⟩ = some (.slice A n cap) ∧ xw3.cell? ⟨rb, 1, none⟩ = some (.int .i64 g0) ∧ xw3.cell? ⟨rb, 2, none⟩ = some (.int .i64 g1) ∧ xw3.cell? ⟨rb, 3, none⟩ = some (.int .i64 g2) ∧ xw3.cell? ⟨rb, 4, none⟩ = some (.int .i64 k0) ∧ xw3.cell? ⟨rb, 5, none⟩ = some (.int .i64 k1) ∧ xw3.cell? ⟨rb, 6, none⟩ = some (.int .i64 k2) ∧ xw3.cell? ⟨rb, 7, none⟩ = some (.int .i64 day) := by refine ⟨?_, ?_, ?_, ?_, ?_, ?_, ?_, ?_, ?_, ?_, ?_, ?_, ?_, ?_, ?_, ?_⟩ <;> (rw [bc1 hbx3]; simp [go_sem, cP, *])
  obtain ⟨x3o0, x3n0, x3o1, x3n1⟩ : w.heap.size < xw3.heap.size ∧ xw3.heap.size ≠ w.heap.size ∧ rb < xw3.heap.size ∧ xw3.heap.size ≠ rb := by refine ⟨?_, ?_, ?_, ?_⟩ <;> omega
  have hBx3 : Below w.heap.size w xw3 := belA
  clear hbx3 x2A0 x2A1 x2A2 x2A3 x2A4 x2A5 x2A6 x2A7 x2B0 x2B1 x2B2 x2B3 x2B4 x2B5 x2B6 x2B7 x2o0 x2n0 x2o1 x2n1 hBx2
  go_wp2_with fail
  refine hK.out _ _ (by simp [go_sem, cP, *]) (fun hHeld => ?_)
  clear hK K
  try simp only [Act.put, sA, sB, sC]
  refine tkA 12 6 rfl ?_
  refine tkA 13 7 rfl ?_
  refine wpAnyH_done (by kernel_rfl) ?_ _
  go_wp2_with fail
  refine (pos_m2 rb vb 0 d am 0 0 fr ⟨#[]⟩ pu none _).mono ?_
  rintro e xw4 ⟨rfl, hbx4⟩
  have zx4 := hbx4.size
  try simp at zx4
  obtain ⟨x4A0, x4A1, x4A2, x4A3, x4A4, x4A5, x4A6, x4A7, x4B0, x4B1, x4B2, x4B3, x4B4, x4B5, x4B6, x4B7⟩ : xw4.cell? ⟨w.heap.size, 0, none⟩ = some (.int .i64 2) ∧ xw4.cell? ⟨w.heap.size, 1, none⟩ = some (.int .i64 d) ∧ xw4.cell? ⟨w.heap.size, 2, none⟩ = some (.string fr) ∧ xw4.cell? ⟨w.heap.size, 3, none⟩ = some (.string ⟨#[]⟩) ∧ xw4.cell? ⟨w.heap.size, 4, none⟩ = some (.int .i64 0) ∧ xw4.cell? ⟨w.heap.size, 5, none⟩ = some (.int .i64 0) ∧ xw4.cell? ⟨w.heap.size, 6, none⟩ = some (.int .i64 am) ∧ xw4.cell? ⟨w.heap.size, 7, none⟩ = some (.bool pu) ∧ xw4.cell? ⟨rb, 0, none⟩ = some (.slice A n cap) ∧ xw4.cell? ⟨rb, 1, none⟩ = some (.int .i64 g0) ∧ xw4.cell? ⟨rb, 2, none⟩ = some (.int .i64 g1) ∧ xw4.cell? ⟨rb, 3, none⟩ = some (.int .i64 g2) ∧ xw4.cell? ⟨rb, 4, none⟩ = some (.int .i64 k0) ∧ xw4.cell? ⟨rb, 5, none⟩ = some (.int .i64 k1) ∧ xw4.cell? ⟨rb, 6, none⟩ = some (.int .i64 k2) ∧ xw4.cell? ⟨rb, 7, none⟩ = some (.int .i64 day) := by refine ⟨?_, ?_, ?_, ?_, ?_, ?_, ?_, ?_, ?_, ?_, ?_, ?_, ?_, ?_, ?_, ?_⟩ <;> (rw [bc1 hbx4]; simp [go_sem, cP, *])
  obtain ⟨x4o0, x4n0, x4o1, x4n1⟩ : w.heap.size < xw4.heap.size ∧ xw4.heap.size ≠ w.heap.size ∧ rb < xw4.heap.size ∧ xw4.heap.size ≠ rb := by refine ⟨?_, ?_, ?_, ?_⟩ <;> omega
  have hBx4 : Below w.heap.size w xw4 := belA
  clear hbx4 x3A0 x3A1 x3A2 x3A3 x3A4 x3A5 x3A6 x3A7 x3B0 x3B1 x3B2 x3B3 x3B4 x3B5 x3B6 x3B7 x3o0 x3n0 x3o1 x3n1 hBx3
  go_wp2
  go_ret
  exact ⟨rfl, belA⟩
end Go.Proofs.Ytjkhjjmmkdfjmaa
