import Derived.Test.YtjkhjjmmkdfjmaaMCLawC0
import Derived.Test.YtjkhjjmmkdfjmaaMCCont
import Derived.Deep.DrawnRows
import Derived.Outline
namespace Go.Proofs.Ytjkhjjmmkdfjmaa
open Go.ChangeShapes Go.WideShapes Go.ChangeAt Go.RowKit
set_option linter.unusedVariables false
set_option linter.unusedSimpArgs false
attribute [local go_sem ↓] Go.wp_at_zero Go.wp_at_succ
set_option maxHeartbeats 16000000 in
set_option maxRecDepth 100000 in
theorem mixContents_E (L : List Ve) (A : Option Addr) (cap n : Nat) (X : List Fl) (fA : Option Addr) (fcap m : Nat) (s : ByteArray) (w : World) (hlen : Hid (n = L.length)) (hm : Hid (m = X.length)) (hl : n ≤ 9223372036854775807) (hml : m ≤ 9223372036854775807) (hL : Hid (SlRows veV 3 w A L)) (hX : Hid (SlRows flV 8 w fA X)) (cA : A = none → cap = 0) (cF : fA = none → fcap = 0) (hcap : n ≤ cap) (hcm : (cap : Int) ≤ 9223372036854775807) (hss : s.size ≤ 9223372036854775807) (N : Nat) (E : Int) (r : Rm) (hr : Hid (runR (rm0 L) X = r)) (hD : Hid (behP L X = (N, E))) (hE0 : ¬ E = 0) : Calls Try.prog 5 #[.slice A n cap, .slice fA m fcap, .string s] w fun e w' => e = .returned (.bool true) ∧ Below w.heap.size w w' := by
  have hE2 : Hid ((behP L X).2 = E) := Lib.hid (by rw [hD.out])
  have hz1 : (E != 0) = true := by simpa using hE0
  have HL : Hid (∀ x, Below w.heap.size w x → SlRows veV 3 x A L) := Lib.hid fun x hx => hL.out.below hx
  have HX : Hid (∀ x, Below w.heap.size w x → SlRows flV 8 x fA X) := Lib.hid fun x hx => hX.out.below hx
  go_enter Try.func5, Try.ntmps5
  go_wp2_with fail
  refine (fawake_any _).mono ?_
  rintro e x1 ⟨rfl, hb1⟩
  have zz1 := hb1.size
  try simp at zz1
  have hc1 : Below w.heap.size w x1 := belA
  have hB1 : Below w.heap.size w x1 := hc1
  have zu1 := hB1.size
  clear hb1
  go_wp2_with fail
  refine (Short_any L A cap n X fA fcap m _ hlen hl (Lib.hid (HL.out _ belA)) hm hml (Lib.hid (HX.out _ belA))).mono ?_
  rintro e x2 ⟨hsh, hb2⟩
  have zz2 := hb2.size
  try simp at zz2
  have hc2 : Below x1.heap.size x1 x2 := belA
  have hB2 : Below w.heap.size w x2 := hB1.trans (hc2.mono hB1.size)
  have zu2 := hB2.size
  clear hb2 hB1 zu1 zz1 hc1
  rcases hsh with rfl | ⟨rfl, hsh⟩
  · go_wp2
    go_ret
    exact ⟨rfl, hB2⟩
  obtain ⟨hs1, hs2, hs3, hs4⟩ := hsh
  have n22 : n ≤ 22 := by have := hlen.out; omega
  have m202 : m ≤ 202 := by have := hm.out; omega
  have hsz : Hid (∀ g ∈ L, g.nm.size ≤ 1000000) := Lib.hid fun g hg => by have := hs1 g hg; omega
  clear hs1 hs2 hs3 hs4
  by_cases h20 : 20 < s.size
  · have f1 : (20 : Int) < (s.size : Int) := by omega
    go_wp2
    go_ret
    exact ⟨rfl, hB2⟩
  have f1 : ¬ (20 : Int) < (s.size : Int) := by omega
  go_wp2_with fail
  refine (copyVe_n L A cap n _ hlen (by omega) cA (HL.out _ belA)).mono ?_
  rintro e x3 ⟨A3, c3, rfl, hs, hb3⟩
  have zz3 := hb3.size
  try simp at zz3
  have hc3 : Below x2.heap.size x2 x3 := belA
  have hB3 : Below w.heap.size w x3 := hB2.trans (hc3.mono hB2.size)
  have zu3 := hB3.size
  have HV := Lib.hid hs
  clear hs
  clear hb3 hB2 zu2 zz2 hc2
  go_wp2_with fail
  refine (copyFl_n X fA fcap m _ hm (by omega) cF (HX.out _ belA)).mono ?_
  rintro e x4 ⟨B4, d4, rfl, ht, hb4⟩
  have zz4 := hb4.size
  try simp at zz4
  have hc4 : Below x3.heap.size x3 x4 := belA
  have hB4 : Below w.heap.size w x4 := hB3.trans (hc4.mono hB3.size)
  have zu4 := hB4.size
  replace HV := Lib.hid (HV.out.below hc4)
  have HF := Lib.hid ht
  clear ht
  clear hb4 hB3 zu3 zz3 hc3
  go_wp2_with fail
  refine (Contents_any L A3 c3 n X B4 d4 m N E r _ hlen (by omega) hsz HV hm HF hD hr (fun h => absurd h hE0)).mono ?_
  rintro e x5 ⟨hq, hb5⟩
  have zz5 := hb5.size
  try simp at zz5
  have hc5 : Below x4.heap.size x4 x5 := belA
  have hB5 : Below w.heap.size w x5 := hB4.trans (hc5.mono hB4.size)
  have zu5 := hB5.size
  obtain rfl := hq.elim (fun h => h.2) (fun h => absurd h.1 hE0)
  clear hb5 hB4 zu4 zz4 hc4
  clear HV HF
  go_wp2_with fail
  refine (copyVe_n L A cap n _ hlen (by omega) cA (HL.out _ belA)).mono ?_
  rintro e x6 ⟨A6, c6, rfl, hs, hb6⟩
  have zz6 := hb6.size
  try simp at zz6
  have hc6 : Below x5.heap.size x5 x6 := belA
  have hB6 : Below w.heap.size w x6 := hB5.trans (hc6.mono hB5.size)
  have zu6 := hB6.size
  have HV := Lib.hid hs
  clear hs
  clear hb6 hB5 zu5 zz5 hc5
  go_wp2_with fail
  refine (copyFl_n X fA fcap m _ hm (by omega) cF (HX.out _ belA)).mono ?_
  rintro e x7 ⟨B7, d7, rfl, ht, hb7⟩
  have zz7 := hb7.size
  try simp at zz7
  have hc7 : Below x6.heap.size x6 x7 := belA
  have hB7 : Below w.heap.size w x7 := hB6.trans (hc7.mono hB6.size)
  have zu7 := hB7.size
  replace HV := Lib.hid (HV.out.below hc7)
  have HF := Lib.hid ht
  clear ht
  clear hb7 hB6 zu6 zz6 hc6
  go_wp2_with fail
  refine (Sums_any L A6 c6 n X B7 d7 m N E r _ hlen (by omega) hsz HV hm HF hD hr).mono ?_
  rintro e x8 ⟨hq, hb8⟩
  have zz8 := hb8.size
  try simp at zz8
  have hc8 : Below x7.heap.size x7 x8 := belA
  have hB8 : Below w.heap.size w x8 := hB7.trans (hc8.mono hB7.size)
  have zu8 := hB8.size
  obtain rfl := hq.elim (fun h => h.2) (fun h => absurd h.1 hE0)
  clear hb8 hB7 zu7 zz7 hc7
  clear HV HF
  go_wp2_with fail
  refine (copyVe_n L A cap n _ hlen (by omega) cA (HL.out _ belA)).mono ?_
  rintro e x9 ⟨A9, c9, rfl, hs, hb9⟩
  have zz9 := hb9.size
  try simp at zz9
  have hc9 : Below x8.heap.size x8 x9 := belA
  have hB9 : Below w.heap.size w x9 := hB8.trans (hc9.mono hB8.size)
  have zu9 := hB9.size
  have HSb := Lib.hid ((blk_new x8 [.int .i64 0, .int .i64 0, .int .i64 0, .int .i64 0, .int .i64 0, .int .i64 0] 51).below hb9)
  have HV := Lib.hid hs
  clear hs
  clear hb9 hB8 zu8 zz8 hc8
  go_wp2_with fail
  refine (copyFl_n X fA fcap m _ hm (by omega) cF (HX.out _ belA)).mono ?_
  rintro e x10 ⟨B10, d10, rfl, ht, hb10⟩
  have zz10 := hb10.size
  try simp at zz10
  have hc10 : Below x9.heap.size x9 x10 := belA
  have hB10 : Below w.heap.size w x10 := hB9.trans (hc10.mono hB9.size)
  have zu10 := hB10.size
  replace HSb := Lib.hid (HSb.out.below hc10)
  replace HV := Lib.hid (HV.out.below hc10)
  have HF := Lib.hid ht
  clear ht
  clear hb10 hB9 zu9 zz9 hc9
  go_wp2_with fail
  refine (PressureOf_any L A9 c9 n X B10 d10 m s _ hlen (by omega) hsz HV hm HF).mono ?_
  rintro e x11 hq0
  have hb11 := hq0.2
  have zz11 := hb11.size
  try simp at zz11
  have hc11 : Below x10.heap.size x10 x11 := belA
  have hB11 : Below w.heap.size w x11 := hB10.trans (hc11.mono hB10.size)
  have zu11 := hB11.size
  replace HSb := Lib.hid (HSb.out.below hc11)
  obtain rfl := PrPost.bad hq0 hE2.out hE0
  clear hq0
  clear hb11 hB10 zu10 zz10 hc10
  clear HV HF
  go_wp2_with fail
  refine (copyVe_n L A cap n _ hlen (by omega) cA (HL.out _ belA)).mono ?_
  rintro e x12 ⟨A12, c12, rfl, hs, hb12⟩
  have zz12 := hb12.size
  try simp at zz12
  have hc12 : Below x11.heap.size x11 x12 := belA
  have hB12 : Below w.heap.size w x12 := hB11.trans (hc12.mono hB11.size)
  have zu12 := hB12.size
  replace HSb := Lib.hid (HSb.out.below hc12)
  have HPb := Lib.hid ((blk_new x11 [.int .i64 0, .int .i64 0] 55).below hb12)
  have HV := Lib.hid hs
  clear hs
  clear hb12 hB11 zu11 zz11 hc11
  go_wp2_with fail
  refine (copyFl_n X fA fcap m _ hm (by omega) cF (HX.out _ belA)).mono ?_
  rintro e x13 ⟨B13, d13, rfl, ht, hb13⟩
  have zz13 := hb13.size
  try simp at zz13
  have hc13 : Below x12.heap.size x12 x13 := belA
  have hB13 : Below w.heap.size w x13 := hB12.trans (hc13.mono hB12.size)
  have zu13 := hB13.size
  replace HSb := Lib.hid (HSb.out.below hc13)
  replace HPb := Lib.hid (HPb.out.below hc13)
  replace HV := Lib.hid (HV.out.below hc13)
  have HF := Lib.hid ht
  clear ht
  clear hb13 hB12 zu12 zz12 hc12
  go_wp2_with fail
  refine (MixtureOf_any L A12 c12 n X B13 d13 m s _ hlen (by omega) hsz HV hm HF).mono ?_
  rintro e x14 hq0
  have hb14 := hq0.2
  have zz14 := hb14.size
  try simp at zz14
  have hc14 : Below x13.heap.size x13 x14 := belA
  have hB14 : Below w.heap.size w x14 := hB13.trans (hc14.mono hB13.size)
  have zu14 := hB14.size
  replace HSb := Lib.hid (HSb.out.below hc14)
  replace HPb := Lib.hid (HPb.out.below hc14)
  obtain rfl := MxPost.bad hq0 hE2.out hE0
  clear hq0
  clear hb14 hB13 zu13 zz13 hc13
  clear HV HF
  go_wp2_with fail
  refine (refFills_any L A cap n X fA fcap m N E _ hlen hcap hcm hsz (Lib.hid (HL.out _ belA)) hm (Lib.hid (HX.out _ belA)) hD).mono ?_
  rintro e x15 ⟨rfl, hb15⟩
  have zz15 := hb15.size
  try simp at zz15
  have hc15 : Below x14.heap.size x14 x15 := belA
  have hB15 : Below w.heap.size w x15 := hB14.trans (hc15.mono hB14.size)
  have zu15 := hB15.size
  replace HSb := Lib.hid (HSb.out.below hc15)
  replace HPb := Lib.hid (HPb.out.below hc15)
  have HMb := Lib.hid ((blk_new x14 [.int .i64 0, .int .i64 0, .int .i64 0, .int .i64 0] 59).below hb15)
  clear hb15 hB14 zu14 zz14 hc14
  obtain ⟨sl, s0, s1, s2, s3, s4, s5⟩ := blk6 HSb.out
  obtain ⟨pl, p0, p1⟩ := blk2 HPb.out
  obtain ⟨ml, m0, m1, m2, m3⟩ := blk4 HMb.out
  have HBZ := Lib.hid hB15
  clear hB15 zu15 zz15 hc15
  go_wp2
  go_ret
  exact ⟨rfl, HBZ.out⟩
end Go.Proofs.Ytjkhjjmmkdfjmaa
