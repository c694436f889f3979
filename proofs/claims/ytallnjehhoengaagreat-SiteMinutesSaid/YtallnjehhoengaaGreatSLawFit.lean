/- SiteFits: the statement returns true for all windows and numbers. -/
import Derived.Test.YtallnjehhoengaaGreatSFits2
import Derived.Outline
namespace Go.Proofs.YtallnjehhoengaaGreat
open Go.ChangeShapes Go.WideShapes Go.ChangeAt Go.RowKit
set_option linter.unusedVariables false
set_option linter.unusedSimpArgs false
attribute [local go_sem ↓] Go.wp_at_zero Go.wp_at_succ
theorem bWithin_is (n a b : Int) (p : Bool) (w : World) (hp : Hid (inB n a b = p)) :
    Calls Tryz.prog 16 #[.int .i64 n, .int .i64 a, .int .i64 b] w fun e w' => e = .returned (.bool p) ∧ w = w' := by
  rw [← hp.out]; exact baseWithin_any n a b w
theorem fits_0 (L : List Rg) (A : Option Addr) (cap n : Nat) (fr mi : Int) (w : World) (hn : Hid (n = L.length)) (hl : n ≤ 9223372036854775807) (HR : Hid (∀ w' : World, Below w.heap.size w w' → SlRows rgV 2 w' A L)) (CA : Hid (A = none → n = 0 ∧ cap = 0)) (hs : Hid (shtB n = false)) : Calls Tryz.prog 12 #[.slice A n cap, .int .i64 fr, .int .i64 mi] w fun e w' => e = .returned (.bool true) ∧ Below w.heap.size w w' := by
  go_enter Tryz.func12, Tryz.ntmps12
  go_wp2_with fail
  refine (awake_any _).mono ?_
  rintro e w1 ⟨rfl, hB1⟩
  go_wp2_with ((go_at_call 41; ((with_reducible refine (short_is A n cap false _ (by omega) hs).mono ?_)); rintro e w' ⟨rfl, rfl⟩))
  go_ret
  exact ⟨rfl, hB1⟩
set_option maxRecDepth 100000 in
set_option maxHeartbeats 2000000 in
theorem fits_1 (L : List Rg) (A : Option Addr) (cap n : Nat) (fr mi : Int) (w : World) (hn : Hid (n = L.length)) (hl : n ≤ 1000000) (HR : Hid (∀ w' : World, Below w.heap.size w w' → SlRows rgV 2 w' A L)) (CA : Hid (A = none → n = 0 ∧ cap = 0)) (hs : Hid (shtB n = true)) (F : Int) (hF : Hid (winE L = F)) (hz : (F != 0) = true) : Calls Tryz.prog 12 #[.slice A n cap, .int .i64 fr, .int .i64 mi] w fun e w' => e = .returned (.bool true) ∧ Below w.heap.size w w' := by
  have hlo : Hid (lonE L mi = F) := Lib.hid (by unfold lonE firE; rw [hF.out, if_neg (by simpa using hz)])
  have hff : Hid (ffE L fr mi = F) := Lib.hid (by unfold ffE firE; rw [hF.out, if_neg (by simpa using hz)])
  have hz2 : (F == 0) = false := by simpa [bne] using hz
  go_enter Tryz.func12, Tryz.ntmps12
  go_wp2_with fail
  refine (awake_any _).mono ?_
  rintro e w1 ⟨rfl, hB1⟩
  go_wp2_with ((go_at_call 41; ((with_reducible refine (short_is A n cap true _ (by omega) hs).mono ?_)); rintro e w' ⟨rfl, rfl⟩))
  go_wp2_with fail
  refine (copyRg_is L A cap n _ hn hl (HR.out _ hB1) CA).mono ?_
  rintro e w2 ⟨G2, c2, rfl, hS2, hC2, hb2⟩
  have hB2 : Below w.heap.size w w2 := hB1.trans (hb2.mono hB1.size)
  have s2 := hB2.size
  go_wp2_with fail
  refine (Longer_bad L G2 c2 n mi F _ hn hl hS2 hlo hz).mono ?_
  rintro e w3 ⟨G3, c3, rfl, hS3, hb3⟩
  have hB3 : Below w.heap.size w w3 := hB2.trans (hb3.mono hB2.size)
  clear hS2 hb2 hb3
  go_wp2_with fail
  refine (copyRg_is L A cap n _ hn hl (HR.out _ hB3) CA).mono ?_
  rintro e w4 ⟨G4, c4, rfl, hS4, hC4, hb4⟩
  have hB4 : Below w.heap.size w w4 := hB3.trans (hb4.mono hB3.size)
  have hS3' := hS3.below hb4
  go_wp2_with fail
  refine (FirstFit_bad L G4 c4 n fr mi F _ hn hl hS4 hff hz).mono ?_
  rintro e w5 ⟨rfl, hb5⟩
  have hB5 : Below w.heap.size w w5 := hB4.trans (hb5.mono hB4.size)
  have hS5 := hS3'.below hb5
  clear hS4 hb4 hS3 hS3' hb5
  go_wp2_with fail
  refine (refWindows_is L A cap n F _ hn hl (HR.out _ hB5) hF).mono ?_
  rintro e w6 ⟨rfl, hb6⟩
  have hB6 : Below w.heap.size w w6 := hB5.trans (hb6.mono hB5.size)
  have HS6 := Lib.hid (hS5.below hb6)
  have HC2 := Lib.hid hC2
  have HC4 := Lib.hid hC4
  have HB6 := Lib.hid hB6
  clear hS5 hb6 hC2 hC4 hB1 hB2 hB3 hB4 hB5 hB6 s2
  go_wp2
  go_ret
  exact ⟨rfl, HB6.out⟩
set_option maxRecDepth 100000 in
set_option maxHeartbeats 2000000 in
theorem fits_2 (L : List Rg) (A : Option Addr) (cap n : Nat) (fr mi : Int) (w : World) (hn : Hid (n = L.length)) (hl : n ≤ 1000000) (HR : Hid (∀ w' : World, Below w.heap.size w w' → SlRows rgV 2 w' A L)) (CA : Hid (A = none → n = 0 ∧ cap = 0)) (hs : Hid (shtB n = true)) (hF : Hid (winE L = 0)) (hmi : Hid (inB mi 1 1000000 = false)) (hfr : Hid (inB fr 0 1000000 = false)) : Calls Tryz.prog 12 #[.slice A n cap, .int .i64 fr, .int .i64 mi] w fun e w' => e = .returned (.bool true) ∧ Below w.heap.size w w' := by
  have hz : ((2 : Int) != 0) = true := by decide
  have hlo : Hid (lonE L mi = 2) := Lib.hid (by unfold lonE; rw [hF.out, rngE_f hmi.out]; rfl)
  have hff : Hid (ffE L fr mi = 2) := Lib.hid (by unfold ffE; rw [hF.out, rngE_f hfr.out]; rfl)
  go_enter Tryz.func12, Tryz.ntmps12
  go_wp2_with fail
  refine (awake_any _).mono ?_
  rintro e w1 ⟨rfl, hB1⟩
  go_wp2_with ((go_at_call 41; ((with_reducible refine (short_is A n cap true _ (by omega) hs).mono ?_)); rintro e w' ⟨rfl, rfl⟩))
  go_wp2_with fail
  refine (copyRg_is L A cap n _ hn hl (HR.out _ hB1) CA).mono ?_
  rintro e w2 ⟨G2, c2, rfl, hS2, hC2, hb2⟩
  have hB2 : Below w.heap.size w w2 := hB1.trans (hb2.mono hB1.size)
  have s2 := hB2.size
  go_wp2_with fail
  refine (Longer_bad L G2 c2 n mi 2 _ hn hl hS2 hlo hz).mono ?_
  rintro e w3 ⟨G3, c3, rfl, hS3, hb3⟩
  have hB3 : Below w.heap.size w w3 := hB2.trans (hb3.mono hB2.size)
  clear hS2 hb2 hb3
  go_wp2_with fail
  refine (copyRg_is L A cap n _ hn hl (HR.out _ hB3) CA).mono ?_
  rintro e w4 ⟨G4, c4, rfl, hS4, hC4, hb4⟩
  have hB4 : Below w.heap.size w w4 := hB3.trans (hb4.mono hB3.size)
  have hS3' := hS3.below hb4
  go_wp2_with fail
  refine (FirstFit_bad L G4 c4 n fr mi 2 _ hn hl hS4 hff hz).mono ?_
  rintro e w5 ⟨rfl, hb5⟩
  have hB5 : Below w.heap.size w w5 := hB4.trans (hb5.mono hB4.size)
  have hS5 := hS3'.below hb5
  clear hS4 hb4 hS3 hS3' hb5
  go_wp2_with fail
  refine (refWindows_is L A cap n 0 _ hn hl (HR.out _ hB5) hF).mono ?_
  rintro e w6 ⟨rfl, hb6⟩
  have hB6 : Below w.heap.size w w6 := hB5.trans (hb6.mono hB5.size)
  have HS6 := Lib.hid (hS5.below hb6)
  have HC2 := Lib.hid hC2
  have HC4 := Lib.hid hC4
  have HB6 := Lib.hid hB6
  clear hS5 hb6 hC2 hC4 hB1 hB2 hB3 hB4 hB5 hB6 s2
  go_wp2_with (first | (go_at_call 16; ((with_reducible refine (bWithin_is _ _ _ _ _ hmi).mono ?_)); rintro e w' ⟨rfl, rfl⟩) | (go_at_call 23; ((with_reducible refine (isMin_is _ _ _ hfr).mono ?_)); rintro e w' ⟨rfl, rfl⟩))
  go_ret
  exact ⟨rfl, HB6.out⟩
set_option maxRecDepth 100000 in
set_option maxHeartbeats 2000000 in
theorem fits_3 (L : List Rg) (A : Option Addr) (cap n : Nat) (fr mi : Int) (w : World) (hn : Hid (n = L.length)) (hl : n ≤ 1000000) (HR : Hid (∀ w' : World, Below w.heap.size w w' → SlRows rgV 2 w' A L)) (CA : Hid (A = none → n = 0 ∧ cap = 0)) (hs : Hid (shtB n = true)) (hF : Hid (winE L = 0)) (m0 : 1 ≤ mi) (m1 : mi ≤ 1000000) (hmi : Hid (inB mi 1 1000000 = true)) (hfr : Hid (inB fr 0 1000000 = false)) : Calls Tryz.prog 12 #[.slice A n cap, .int .i64 fr, .int .i64 mi] w fun e w' => e = .returned (.bool true) ∧ Below w.heap.size w w' := by
  have hz : ((2 : Int) != 0) = true := by decide
  have hff : Hid (ffE L fr mi = 2) := Lib.hid (by unfold ffE; rw [hF.out, rngE_f hfr.out]; rfl)
  go_enter Tryz.func12, Tryz.ntmps12
  go_wp2_with fail
  refine (awake_any _).mono ?_
  rintro e w1 ⟨rfl, hB1⟩
  go_wp2_with ((go_at_call 41; ((with_reducible refine (short_is A n cap true _ (by omega) hs).mono ?_)); rintro e w' ⟨rfl, rfl⟩))
  go_wp2_with fail
  refine (copyRg_is L A cap n _ hn hl (HR.out _ hB1) CA).mono ?_
  rintro e w2 ⟨G2, c2, rfl, hS2, hC2, hb2⟩
  have hB2 : Below w.heap.size w w2 := hB1.trans (hb2.mono hB1.size)
  have s2 := hB2.size
  go_wp2_with fail
  refine (Longer_good L G2 c2 n mi _ hn hS2 hF m0 m1).mono ?_
  rintro e w3 ⟨G3, c3, rfl, hS3, hb3⟩
  have hB3 : Below w.heap.size w w3 := hB2.trans (hb3.mono hB2.size)
  clear hS2 hb2 hb3
  go_wp2_with fail
  refine (copyRg_is L A cap n _ hn hl (HR.out _ hB3) CA).mono ?_
  rintro e w4 ⟨G4, c4, rfl, hS4, hC4, hb4⟩
  have hB4 : Below w.heap.size w w4 := hB3.trans (hb4.mono hB3.size)
  have hS3' := hS3.below hb4
  go_wp2_with fail
  refine (FirstFit_bad L G4 c4 n fr mi 2 _ hn hl hS4 hff hz).mono ?_
  rintro e w5 ⟨rfl, hb5⟩
  have hB5 : Below w.heap.size w w5 := hB4.trans (hb5.mono hB4.size)
  have hS5 := hS3'.below hb5
  clear hS4 hb4 hS3 hS3' hb5
  go_wp2_with fail
  refine (refWindows_is L A cap n 0 _ hn hl (HR.out _ hB5) hF).mono ?_
  rintro e w6 ⟨rfl, hb6⟩
  have hB6 : Below w.heap.size w w6 := hB5.trans (hb6.mono hB5.size)
  have HS6 := Lib.hid (hS5.below hb6)
  have HC2 := Lib.hid hC2
  have HC4 := Lib.hid hC4
  have HB6 := Lib.hid hB6
  clear hS5 hb6 hC2 hC4 hB1 hB2 hB3 hB4 hB5 hB6 s2
  go_wp2_with (first | (go_at_call 16; ((with_reducible refine (bWithin_is _ _ _ _ _ hmi).mono ?_)); rintro e w' ⟨rfl, rfl⟩) | (go_at_call 23; ((with_reducible refine (isMin_is _ _ _ hfr).mono ?_)); rintro e w' ⟨rfl, rfl⟩))
  refine (refLonger_is L A cap n mi _ hn (HR.out _ HB6.out) hF m0 m1).mono ?_
  rintro e w7 ⟨G7, c7, rfl, hS7, hb7⟩
  have hB7 := HB6.out.trans (hb7.mono HB6.out.size)
  have HS7 := Lib.hid hS7
  have HS67 := Lib.hid (HS6.out.below hb7)
  have HB7 := Lib.hid hB7
  clear hS7 hb7 hB7
  go_wp2_with fail
  refine (ranges_t (lngL L mi) G3 G7 c3 c7 _ _ (Lib.hid rfl) (by have := lngL_len L mi; have := hn.out; omega) HS67.out HS7.out).mono ?_
  rintro e w8 ⟨rfl, hb8⟩
  have HB8 := Lib.hid (HB7.out.trans (hb8.mono HB7.out.size))
  clear hb8
  go_wp2
  go_ret
  exact ⟨rfl, HB8.out⟩
set_option maxRecDepth 100000 in
set_option maxHeartbeats 2000000 in
theorem fits_4 (L : List Rg) (A : Option Addr) (cap n : Nat) (fr mi : Int) (w : World) (hn : Hid (n = L.length)) (hl : n ≤ 1000000) (HR : Hid (∀ w' : World, Below w.heap.size w w' → SlRows rgV 2 w' A L)) (CA : Hid (A = none → n = 0 ∧ cap = 0)) (hs : Hid (shtB n = true)) (hF : Hid (winE L = 0)) (hmi : Hid (inB mi 1 1000000 = false)) (hfr : Hid (inB fr 0 1000000 = true)) : Calls Tryz.prog 12 #[.slice A n cap, .int .i64 fr, .int .i64 mi] w fun e w' => e = .returned (.bool true) ∧ Below w.heap.size w w' := by
  have hz : ((2 : Int) != 0) = true := by decide
  have hlo : Hid (lonE L mi = 2) := Lib.hid (by unfold lonE; rw [hF.out, rngE_f hmi.out]; rfl)
  have hff : Hid (ffE L fr mi = 2) := Lib.hid (by unfold ffE; rw [hF.out, rngE_t hfr.out, rngE_f hmi.out]; rfl)
  go_enter Tryz.func12, Tryz.ntmps12
  go_wp2_with fail
  refine (awake_any _).mono ?_
  rintro e w1 ⟨rfl, hB1⟩
  go_wp2_with ((go_at_call 41; ((with_reducible refine (short_is A n cap true _ (by omega) hs).mono ?_)); rintro e w' ⟨rfl, rfl⟩))
  go_wp2_with fail
  refine (copyRg_is L A cap n _ hn hl (HR.out _ hB1) CA).mono ?_
  rintro e w2 ⟨G2, c2, rfl, hS2, hC2, hb2⟩
  have hB2 : Below w.heap.size w w2 := hB1.trans (hb2.mono hB1.size)
  have s2 := hB2.size
  go_wp2_with fail
  refine (Longer_bad L G2 c2 n mi 2 _ hn hl hS2 hlo hz).mono ?_
  rintro e w3 ⟨G3, c3, rfl, hS3, hb3⟩
  have hB3 : Below w.heap.size w w3 := hB2.trans (hb3.mono hB2.size)
  clear hS2 hb2 hb3
  go_wp2_with fail
  refine (copyRg_is L A cap n _ hn hl (HR.out _ hB3) CA).mono ?_
  rintro e w4 ⟨G4, c4, rfl, hS4, hC4, hb4⟩
  have hB4 : Below w.heap.size w w4 := hB3.trans (hb4.mono hB3.size)
  have hS3' := hS3.below hb4
  go_wp2_with fail
  refine (FirstFit_bad L G4 c4 n fr mi 2 _ hn hl hS4 hff hz).mono ?_
  rintro e w5 ⟨rfl, hb5⟩
  have hB5 : Below w.heap.size w w5 := hB4.trans (hb5.mono hB4.size)
  have hS5 := hS3'.below hb5
  clear hS4 hb4 hS3 hS3' hb5
  go_wp2_with fail
  refine (refWindows_is L A cap n 0 _ hn hl (HR.out _ hB5) hF).mono ?_
  rintro e w6 ⟨rfl, hb6⟩
  have hB6 : Below w.heap.size w w6 := hB5.trans (hb6.mono hB5.size)
  have HS6 := Lib.hid (hS5.below hb6)
  have HC2 := Lib.hid hC2
  have HC4 := Lib.hid hC4
  have HB6 := Lib.hid hB6
  clear hS5 hb6 hC2 hC4 hB1 hB2 hB3 hB4 hB5 hB6 s2
  go_wp2_with (first | (go_at_call 16; ((with_reducible refine (bWithin_is _ _ _ _ _ hmi).mono ?_)); rintro e w' ⟨rfl, rfl⟩) | (go_at_call 23; ((with_reducible refine (isMin_is _ _ _ hfr).mono ?_)); rintro e w' ⟨rfl, rfl⟩))
  go_ret
  exact ⟨rfl, HB6.out⟩
set_option maxRecDepth 100000 in
set_option maxHeartbeats 2000000 in
theorem fits_5 (L : List Rg) (A : Option Addr) (cap n : Nat) (fr mi v : Int) (w : World) (hn : Hid (n = L.length)) (hl : n ≤ 1000000) (HR : Hid (∀ w' : World, Below w.heap.size w w' → SlRows rgV 2 w' A L)) (CA : Hid (A = none → n = 0 ∧ cap = 0)) (hs : Hid (shtB n = true)) (hF : Hid (winE L = 0)) (m0 : 1 ≤ mi) (m1 : mi ≤ 1000000) (f0 : 0 ≤ fr) (f1 : fr ≤ 1000000) (hmi : Hid (inB mi 1 1000000 = true)) (hfr : Hid (inB fr 0 1000000 = true)) (hv : Hid (ffV L fr mi = v)) (hneg : v < 0) : Calls Tryz.prog 12 #[.slice A n cap, .int .i64 fr, .int .i64 mi] w fun e w' => e = .returned (.bool true) ∧ Below w.heap.size w w' := by
  have hrr : Hid (ffR v = (0, 12)) := Lib.hid (by unfold ffR; rw [if_pos hneg])
  go_enter Tryz.func12, Tryz.ntmps12
  go_wp2_with fail
  refine (awake_any _).mono ?_
  rintro e w1 ⟨rfl, hB1⟩
  go_wp2_with ((go_at_call 41; ((with_reducible refine (short_is A n cap true _ (by omega) hs).mono ?_)); rintro e w' ⟨rfl, rfl⟩))
  go_wp2_with fail
  refine (copyRg_is L A cap n _ hn hl (HR.out _ hB1) CA).mono ?_
  rintro e w2 ⟨G2, c2, rfl, hS2, hC2, hb2⟩
  have hB2 : Below w.heap.size w w2 := hB1.trans (hb2.mono hB1.size)
  have s2 := hB2.size
  go_wp2_with fail
  refine (Longer_good L G2 c2 n mi _ hn hS2 hF m0 m1).mono ?_
  rintro e w3 ⟨G3, c3, rfl, hS3, hb3⟩
  have hB3 : Below w.heap.size w w3 := hB2.trans (hb3.mono hB2.size)
  clear hS2 hb2 hb3
  go_wp2_with fail
  refine (copyRg_is L A cap n _ hn hl (HR.out _ hB3) CA).mono ?_
  rintro e w4 ⟨G4, c4, rfl, hS4, hC4, hb4⟩
  have hB4 : Below w.heap.size w w4 := hB3.trans (hb4.mono hB3.size)
  have hS3' := hS3.below hb4
  go_wp2_with fail
  refine (FirstFit_good L G4 c4 n fr mi v 0 12 _ hn hS4 hF f0 f1 m0 m1 hv hrr).mono ?_
  rintro e w5 ⟨rfl, hb5⟩
  have hB5 : Below w.heap.size w w5 := hB4.trans (hb5.mono hB4.size)
  have hS5 := hS3'.below hb5
  clear hS4 hb4 hS3 hS3' hb5
  go_wp2_with fail
  refine (refWindows_is L A cap n 0 _ hn hl (HR.out _ hB5) hF).mono ?_
  rintro e w6 ⟨rfl, hb6⟩
  have hB6 : Below w.heap.size w w6 := hB5.trans (hb6.mono hB5.size)
  have HS6 := Lib.hid (hS5.below hb6)
  have HC2 := Lib.hid hC2
  have HC4 := Lib.hid hC4
  have HB6 := Lib.hid hB6
  clear hS5 hb6 hC2 hC4 hB1 hB2 hB3 hB4 hB5 hB6 s2
  go_wp2_with (first | (go_at_call 16; ((with_reducible refine (bWithin_is _ _ _ _ _ hmi).mono ?_)); rintro e w' ⟨rfl, rfl⟩) | (go_at_call 23; ((with_reducible refine (isMin_is _ _ _ hfr).mono ?_)); rintro e w' ⟨rfl, rfl⟩))
  refine (refLonger_is L A cap n mi _ hn (HR.out _ HB6.out) hF m0 m1).mono ?_
  rintro e w7 ⟨G7, c7, rfl, hS7, hb7⟩
  have hB7 := HB6.out.trans (hb7.mono HB6.out.size)
  have HS7 := Lib.hid hS7
  have HS67 := Lib.hid (HS6.out.below hb7)
  have HB7 := Lib.hid hB7
  clear hS7 hb7 hB7
  go_wp2_with fail
  refine (ranges_t (lngL L mi) G3 G7 c3 c7 _ _ (Lib.hid rfl) (by have := lngL_len L mi; have := hn.out; omega) HS67.out HS7.out).mono ?_
  rintro e w8 ⟨rfl, hb8⟩
  have HB8 := Lib.hid (HB7.out.trans (hb8.mono HB7.out.size))
  clear hb8
  go_wp2_with fail
  refine (refFirstFit_is L A cap n fr mi v _ hn (HR.out _ HB8.out) hF f0 f1 m0 m1 hv).mono ?_
  rintro e w9 ⟨rfl, hb9⟩
  have HB9 := Lib.hid (HB8.out.trans (hb9.mono HB8.out.size))
  clear hb9
  go_wp2
  go_ret
  exact ⟨rfl, HB9.out⟩
set_option maxRecDepth 100000 in
set_option maxHeartbeats 2000000 in
theorem fits_6 (L : List Rg) (A : Option Addr) (cap n : Nat) (fr mi v : Int) (w : World) (hn : Hid (n = L.length)) (hl : n ≤ 1000000) (HR : Hid (∀ w' : World, Below w.heap.size w w' → SlRows rgV 2 w' A L)) (CA : Hid (A = none → n = 0 ∧ cap = 0)) (hs : Hid (shtB n = true)) (hF : Hid (winE L = 0)) (m0 : 1 ≤ mi) (m1 : mi ≤ 1000000) (f0 : 0 ≤ fr) (f1 : fr ≤ 1000000) (hmi : Hid (inB mi 1 1000000 = true)) (hfr : Hid (inB fr 0 1000000 = true)) (hv : Hid (ffV L fr mi = v)) (hneg : 0 ≤ v) : Calls Tryz.prog 12 #[.slice A n cap, .int .i64 fr, .int .i64 mi] w fun e w' => e = .returned (.bool true) ∧ Below w.heap.size w w' := by
  have hrr : Hid (ffR v = (v, 0)) := Lib.hid (by unfold ffR; rw [if_neg (by omega)])
  have hneg2 : ¬ v < 0 := by omega
  go_enter Tryz.func12, Tryz.ntmps12
  go_wp2_with fail
  refine (awake_any _).mono ?_
  rintro e w1 ⟨rfl, hB1⟩
  go_wp2_with ((go_at_call 41; ((with_reducible refine (short_is A n cap true _ (by omega) hs).mono ?_)); rintro e w' ⟨rfl, rfl⟩))
  go_wp2_with fail
  refine (copyRg_is L A cap n _ hn hl (HR.out _ hB1) CA).mono ?_
  rintro e w2 ⟨G2, c2, rfl, hS2, hC2, hb2⟩
  have hB2 : Below w.heap.size w w2 := hB1.trans (hb2.mono hB1.size)
  have s2 := hB2.size
  go_wp2_with fail
  refine (Longer_good L G2 c2 n mi _ hn hS2 hF m0 m1).mono ?_
  rintro e w3 ⟨G3, c3, rfl, hS3, hb3⟩
  have hB3 : Below w.heap.size w w3 := hB2.trans (hb3.mono hB2.size)
  clear hS2 hb2 hb3
  go_wp2_with fail
  refine (copyRg_is L A cap n _ hn hl (HR.out _ hB3) CA).mono ?_
  rintro e w4 ⟨G4, c4, rfl, hS4, hC4, hb4⟩
  have hB4 : Below w.heap.size w w4 := hB3.trans (hb4.mono hB3.size)
  have hS3' := hS3.below hb4
  go_wp2_with fail
  refine (FirstFit_good L G4 c4 n fr mi v v 0 _ hn hS4 hF f0 f1 m0 m1 hv hrr).mono ?_
  rintro e w5 ⟨rfl, hb5⟩
  have hB5 : Below w.heap.size w w5 := hB4.trans (hb5.mono hB4.size)
  have hS5 := hS3'.below hb5
  clear hS4 hb4 hS3 hS3' hb5
  go_wp2_with fail
  refine (refWindows_is L A cap n 0 _ hn hl (HR.out _ hB5) hF).mono ?_
  rintro e w6 ⟨rfl, hb6⟩
  have hB6 : Below w.heap.size w w6 := hB5.trans (hb6.mono hB5.size)
  have HS6 := Lib.hid (hS5.below hb6)
  have HC2 := Lib.hid hC2
  have HC4 := Lib.hid hC4
  have HB6 := Lib.hid hB6
  clear hS5 hb6 hC2 hC4 hB1 hB2 hB3 hB4 hB5 hB6 s2
  go_wp2_with (first | (go_at_call 16; ((with_reducible refine (bWithin_is _ _ _ _ _ hmi).mono ?_)); rintro e w' ⟨rfl, rfl⟩) | (go_at_call 23; ((with_reducible refine (isMin_is _ _ _ hfr).mono ?_)); rintro e w' ⟨rfl, rfl⟩))
  refine (refLonger_is L A cap n mi _ hn (HR.out _ HB6.out) hF m0 m1).mono ?_
  rintro e w7 ⟨G7, c7, rfl, hS7, hb7⟩
  have hB7 := HB6.out.trans (hb7.mono HB6.out.size)
  have HS7 := Lib.hid hS7
  have HS67 := Lib.hid (HS6.out.below hb7)
  have HB7 := Lib.hid hB7
  clear hS7 hb7 hB7
  go_wp2_with fail
  refine (ranges_t (lngL L mi) G3 G7 c3 c7 _ _ (Lib.hid rfl) (by have := lngL_len L mi; have := hn.out; omega) HS67.out HS7.out).mono ?_
  rintro e w8 ⟨rfl, hb8⟩
  have HB8 := Lib.hid (HB7.out.trans (hb8.mono HB7.out.size))
  clear hb8
  go_wp2_with fail
  refine (refFirstFit_is L A cap n fr mi v _ hn (HR.out _ HB8.out) hF f0 f1 m0 m1 hv).mono ?_
  rintro e w9 ⟨rfl, hb9⟩
  have HB9 := Lib.hid (HB8.out.trans (hb9.mono HB8.out.size))
  clear hb9
  go_wp2
  go_ret
  exact ⟨rfl, HB9.out⟩
theorem siteFits_any (L : List Rg) (A : Option Addr) (cap : Nat) (fr mi : Int) (w : World) (hl : L.length ≤ 9223372036854775807) (hca : A = none → cap = 0) (hL : SlRows rgV 2 w A L) :
    Calls Tryz.prog 12 #[.slice A L.length cap, .int .i64 fr, .int .i64 mi] w fun e w' => e = .returned (.bool true) ∧ Below w.heap.size w w' := by
  have hn : Hid (L.length = L.length) := Lib.hid rfl
  have HR : Hid (∀ w' : World, Below w.heap.size w w' → SlRows rgV 2 w' A L) := Lib.hid fun w' h => hL.below h
  have CA : Hid (A = none → L.length = 0 ∧ cap = 0) := Lib.hid fun h => And.intro (by
    rcases hL with h0 | ⟨b, off, hA, _, _⟩
    · rw [h0]; rfl
    · rw [h] at hA; cases hA) (hca h)
  cases h0 : shtB L.length with
  | false => exact fits_0 L A cap _ fr mi w hn hl HR CA (Lib.hid h0)
  | true =>
    have hl2 : L.length ≤ 1000000 := by unfold shtB at h0; simp at h0; omega
    by_cases h1 : winE L = 0
    · rcases inB_cases mi 1 1000000 with h2 | h2
      · obtain ⟨m0, m1⟩ := inB_iff.1 h2
        rcases inB_cases fr 0 1000000 with h3 | h3
        · obtain ⟨f0, f1⟩ := inB_iff.1 h3
          by_cases h4 : ffV L fr mi < 0
          · exact fits_5 L A cap _ fr mi _ w hn hl2 HR CA (Lib.hid h0) (Lib.hid h1) m0 m1 f0 f1 (Lib.hid h2) (Lib.hid h3) (Lib.hid rfl) h4
          · exact fits_6 L A cap _ fr mi _ w hn hl2 HR CA (Lib.hid h0) (Lib.hid h1) m0 m1 f0 f1 (Lib.hid h2) (Lib.hid h3) (Lib.hid rfl) (by omega)
        · exact fits_3 L A cap _ fr mi w hn hl2 HR CA (Lib.hid h0) (Lib.hid h1) m0 m1 (Lib.hid h2) (Lib.hid h3)
      · rcases inB_cases fr 0 1000000 with h3 | h3
        · exact fits_4 L A cap _ fr mi w hn hl2 HR CA (Lib.hid h0) (Lib.hid h1) (Lib.hid h2) (Lib.hid h3)
        · exact fits_2 L A cap _ fr mi w hn hl2 HR CA (Lib.hid h0) (Lib.hid h1) (Lib.hid h2) (Lib.hid h3)
    · exact fits_1 L A cap _ fr mi w hn hl2 HR CA (Lib.hid h0) _ (Lib.hid rfl) (by simpa using h1)
end Go.Proofs.YtallnjehhoengaaGreat
