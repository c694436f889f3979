import Derived.Test.YtjkhjjmmkdfjmaaMCLawC0
import Derived.Test.YtjkhjjmmkdfjmaaMCCont
import Derived.Deep.DrawnRows
import Derived.Outline
namespace Go.Proofs.Ytjkhjjmmkdfjmaa
open Go.ChangeShapes Go.WideShapes Go.ChangeAt Go.RowKit
set_option linter.unusedVariables false
set_option linter.unusedSimpArgs false
attribute [local go_sem ↓] Go.wp_at_zero Go.wp_at_succ
set_option maxHeartbeats 16000000 in
set_option maxRecDepth 100000 in
theorem mixContents_zero (L : List Ve) (A : Option Addr) (cap n : Nat) (X : List Fl) (fA : Option Addr) (fcap m : Nat) (s : ByteArray) (w : World) (hlen : Hid (n = L.length)) (hm : Hid (m = X.length)) (hl : n ≤ 9223372036854775807) (hml : m ≤ 9223372036854775807) (hL : Hid (SlRows veV 3 w A L)) (hX : Hid (SlRows flV 8 w fA X)) (cA : A = none → cap = 0) (cF : fA = none → fcap = 0) (hcap : n ≤ cap) (hcm : (cap : Int) ≤ 9223372036854775807) (hss : s.size ≤ 9223372036854775807) (N : Nat) (r : Rm) (hr : Hid (runR (rm0 L) X = r)) (hD : Hid (behP L X = (N, 0))) (q : Nat) (hq1 : q < r.H.length) (G : Hd) (hG : Hid (r.H[q] = G)) (S : Int) (hS : Hid (G.a + G.b + G.c = S)) (hf : Hid (fndV s L = q)) (hS0 : Hid (S = 0)) : Calls Try.prog 5 #[.slice A n cap, .slice fA m fcap, .string s] w fun e w' => e = .returned (.bool true) ∧ Below w.heap.size w w' := by
  have hok := (beh_all hD.out).1
  have hmap := (beh_all hD.out).2.2.2
  rw [hr.out] at hmap hok
  have hln : r.H.length = n := by have h2 := congrArg List.length hmap; rw [List.length_map] at h2; rw [hlen.out]; exact h2
  have hgk := hok.hd _ (List.getElem_mem hq1)
  rw [hG.out] at hgk
  obtain ⟨_, gc, gv1, gv2, _, _⟩ := hgk
  have hcB := Lib.hid gc
  obtain ⟨ca, cb, cc0, cs⟩ := conB_iff.1 gc
  have S0 : 0 ≤ S ∧ S ≤ 1000000000 := by have := hS.out; omega
  clear gc
  have HM := Lib.hid hmap
  have HLN := Lib.hid hln
  clear hok hmap hln
  have hE2 : Hid ((behP L X).2 = 0) := Lib.hid (by rw [hD.out])
  have hC : Hid (ctV L = 0) := Lib.hid (beh_ct hE2.out)
  have HL : Hid (∀ x, Below w.heap.size w x → SlRows veV 3 x A L) := Lib.hid fun x hx => hL.out.below hx
  have HX : Hid (∀ x, Below w.heap.size w x → SlRows flV 8 x fA X) := Lib.hid fun x hx => hX.out.below hx
  go_enter Try.func5, Try.ntmps5
  go_wp2_with fail
  refine (fawake_any _).mono ?_
  rintro e x1 ⟨rfl, hb1⟩
  have zz1 := hb1.size
  try simp at zz1
  have hc1 : Below w.heap.size w x1 := belA
  have hB1 : Below w.heap.size w x1 := hc1
  have zu1 := hB1.size
  clear hb1
  go_wp2_with fail
  refine (Short_any L A cap n X fA fcap m _ hlen hl (Lib.hid (HL.out _ belA)) hm hml (Lib.hid (HX.out _ belA))).mono ?_
  rintro e x2 ⟨hsh, hb2⟩
  have zz2 := hb2.size
  try simp at zz2
  have hc2 : Below x1.heap.size x1 x2 := belA
  have hB2 : Below w.heap.size w x2 := hB1.trans (hc2.mono hB1.size)
  have zu2 := hB2.size
  clear hb2 hB1 zu1 zz1 hc1
  rcases hsh with rfl | ⟨rfl, hsh⟩
  · go_wp2
    go_ret
    exact ⟨rfl, hB2⟩
  obtain ⟨hs1, hs2, hs3, hs4⟩ := hsh
  have n22 : n ≤ 22 := by have := hlen.out; omega
  have m202 : m ≤ 202 := by have := hm.out; omega
  have hsz : Hid (∀ g ∈ L, g.nm.size ≤ 1000000) := Lib.hid fun g hg => by have := hs1 g hg; omega
  clear hs1 hs2 hs3 hs4
  by_cases h20 : 20 < s.size
  · have f1 : (20 : Int) < (s.size : Int) := by omega
    go_wp2
    go_ret
    exact ⟨rfl, hB2⟩
  have f1 : ¬ (20 : Int) < (s.size : Int) := by omega
  have hHl : r.H.length ≤ 1000 := by have := HLN.out; omega
  go_wp2_with fail
  refine (copyVe_n L A cap n _ hlen (by omega) cA (HL.out _ belA)).mono ?_
  rintro e x3 ⟨A3, c3, rfl, hs, hb3⟩
  have zz3 := hb3.size
  try simp at zz3
  have hc3 : Below x2.heap.size x2 x3 := belA
  have hB3 : Below w.heap.size w x3 := hB2.trans (hc3.mono hB2.size)
  have zu3 := hB3.size
  have HV := Lib.hid hs
  clear hs
  clear hb3 hB2 zu2 zz2 hc2
  go_wp2_with fail
  refine (copyFl_n X fA fcap m _ hm (by omega) cF (HX.out _ belA)).mono ?_
  rintro e x4 ⟨B4, d4, rfl, ht, hb4⟩
  have zz4 := hb4.size
  try simp at zz4
  have hc4 : Below x3.heap.size x3 x4 := belA
  have hB4 : Below w.heap.size w x4 := hB3.trans (hc4.mono hB3.size)
  have zu4 := hB4.size
  replace HV := Lib.hid (HV.out.below hc4)
  have HF := Lib.hid ht
  clear ht
  clear hb4 hB3 zu3 zz3 hc3
  go_wp2_with fail
  refine (Contents_any L A3 c3 n X B4 d4 m N 0 r _ hlen (by omega) hsz HV hm HF hD hr (fun _ => hHl)).mono ?_
  rintro e x5 ⟨hq, hb5⟩
  have zz5 := hb5.size
  try simp at zz5
  have hc5 : Below x4.heap.size x4 x5 := belA
  have hB5 : Below w.heap.size w x5 := hB4.trans (hc5.mono hB4.size)
  have zu5 := hB5.size
  obtain ⟨_, Ac, nc, cc, rfl, rfl, hsc⟩ := hq.resolve_left (fun h => h.1 rfl)
  have HSC := Lib.hid hsc
  clear hsc
  clear hb5 hB4 zu4 zz4 hc4
  clear HV HF
  go_wp2_with fail
  refine (copyVe_n L A cap n _ hlen (by omega) cA (HL.out _ belA)).mono ?_
  rintro e x6 ⟨A6, c6, rfl, hs, hb6⟩
  have zz6 := hb6.size
  try simp at zz6
  have hc6 : Below x5.heap.size x5 x6 := belA
  have hB6 : Below w.heap.size w x6 := hB5.trans (hc6.mono hB5.size)
  have zu6 := hB6.size
  replace HSC := Lib.hid (HSC.out.below hc6)
  have HV := Lib.hid hs
  clear hs
  clear hb6 hB5 zu5 zz5 hc5
  go_wp2_with fail
  refine (copyFl_n X fA fcap m _ hm (by omega) cF (HX.out _ belA)).mono ?_
  rintro e x7 ⟨B7, d7, rfl, ht, hb7⟩
  have zz7 := hb7.size
  try simp at zz7
  have hc7 : Below x6.heap.size x6 x7 := belA
  have hB7 : Below w.heap.size w x7 := hB6.trans (hc7.mono hB6.size)
  have zu7 := hB7.size
  replace HSC := Lib.hid (HSC.out.below hc7)
  replace HV := Lib.hid (HV.out.below hc7)
  have HF := Lib.hid ht
  clear ht
  clear hb7 hB6 zu6 zz6 hc6
  go_wp2_with fail
  refine (Sums_any L A6 c6 n X B7 d7 m N 0 r _ hlen (by omega) hsz HV hm HF hD hr).mono ?_
  rintro e x8 ⟨hq, hb8⟩
  have zz8 := hb8.size
  try simp at zz8
  have hc8 : Below x7.heap.size x7 x8 := belA
  have hB8 : Below w.heap.size w x8 := hB7.trans (hc8.mono hB7.size)
  have zu8 := hB8.size
  replace HSC := Lib.hid (HSC.out.below hc8)
  obtain rfl := (hq.resolve_left (fun h => h.1 rfl)).2
  clear hb8 hB7 zu7 zz7 hc7
  clear HV HF
  go_wp2_with fail
  refine (copyVe_n L A cap n _ hlen (by omega) cA (HL.out _ belA)).mono ?_
  rintro e x9 ⟨A9, c9, rfl, hs, hb9⟩
  have zz9 := hb9.size
  try simp at zz9
  have hc9 : Below x8.heap.size x8 x9 := belA
  have hB9 : Below w.heap.size w x9 := hB8.trans (hc9.mono hB8.size)
  have zu9 := hB9.size
  replace HSC := Lib.hid (HSC.out.below hc9)
  have HSb := Lib.hid ((blk_new x8 [.int .i64 r.g0, .int .i64 r.g1, .int .i64 r.g2, .int .i64 r.k0, .int .i64 r.k1, .int .i64 r.k2] 51).below hb9)
  have HV := Lib.hid hs
  clear hs
  clear hb9 hB8 zu8 zz8 hc8
  go_wp2_with fail
  refine (copyFl_n X fA fcap m _ hm (by omega) cF (HX.out _ belA)).mono ?_
  rintro e x10 ⟨B10, d10, rfl, ht, hb10⟩
  have zz10 := hb10.size
  try simp at zz10
  have hc10 : Below x9.heap.size x9 x10 := belA
  have hB10 : Below w.heap.size w x10 := hB9.trans (hc10.mono hB9.size)
  have zu10 := hB10.size
  replace HSC := Lib.hid (HSC.out.below hc10)
  replace HSb := Lib.hid (HSb.out.below hc10)
  replace HV := Lib.hid (HV.out.below hc10)
  have HF := Lib.hid ht
  clear ht
  clear hb10 hB9 zu9 zz9 hc9
  go_wp2_with fail
  refine (PressureOf_any L A9 c9 n X B10 d10 m s _ hlen (by omega) hsz HV hm HF).mono ?_
  rintro e x11 hq0
  have hb11 := hq0.2
  have zz11 := hb11.size
  try simp at zz11
  have hc11 : Below x10.heap.size x10 x11 := belA
  have hB11 : Below w.heap.size w x11 := hB10.trans (hc11.mono hB10.size)
  have zu11 := hB11.size
  replace HSC := Lib.hid (HSC.out.below hc11)
  replace HSb := Lib.hid (HSb.out.below hc11)
  obtain rfl := PrPost.some hq0 hE2.out hr.out hf.out hq1 hG.out hS.out
  clear hq0
  clear hb11 hB10 zu10 zz10 hc10
  clear HV HF
  go_wp2_with fail
  refine (copyVe_n L A cap n _ hlen (by omega) cA (HL.out _ belA)).mono ?_
  rintro e x12 ⟨A12, c12, rfl, hs, hb12⟩
  have zz12 := hb12.size
  try simp at zz12
  have hc12 : Below x11.heap.size x11 x12 := belA
  have hB12 : Below w.heap.size w x12 := hB11.trans (hc12.mono hB11.size)
  have zu12 := hB12.size
  replace HSC := Lib.hid (HSC.out.below hc12)
  replace HSb := Lib.hid (HSb.out.below hc12)
  have HPb := Lib.hid ((blk_new x11 [.int .i64 (1000 * S / G.v), .int .i64 (upI (1000 * S) G.v)] 55).below hb12)
  have HV := Lib.hid hs
  clear hs
  clear hb12 hB11 zu11 zz11 hc11
  go_wp2_with fail
  refine (copyFl_n X fA fcap m _ hm (by omega) cF (HX.out _ belA)).mono ?_
  rintro e x13 ⟨B13, d13, rfl, ht, hb13⟩
  have zz13 := hb13.size
  try simp at zz13
  have hc13 : Below x12.heap.size x12 x13 := belA
  have hB13 : Below w.heap.size w x13 := hB12.trans (hc13.mono hB12.size)
  have zu13 := hB13.size
  replace HSC := Lib.hid (HSC.out.below hc13)
  replace HSb := Lib.hid (HSb.out.below hc13)
  replace HPb := Lib.hid (HPb.out.below hc13)
  replace HV := Lib.hid (HV.out.below hc13)
  have HF := Lib.hid ht
  clear ht
  clear hb13 hB12 zu12 zz12 hc12
  go_wp2_with fail
  refine (MixtureOf_any L A12 c12 n X B13 d13 m s _ hlen (by omega) hsz HV hm HF).mono ?_
  rintro e x14 hq0
  have hb14 := hq0.2
  have zz14 := hb14.size
  try simp at zz14
  have hc14 : Below x13.heap.size x13 x14 := belA
  have hB14 : Below w.heap.size w x14 := hB13.trans (hc14.mono hB13.size)
  have zu14 := hB14.size
  replace HSC := Lib.hid (HSC.out.below hc14)
  replace HSb := Lib.hid (HSb.out.below hc14)
  replace HPb := Lib.hid (HPb.out.below hc14)
  obtain rfl := MxPost.zero hq0 hE2.out hr.out hf.out hq1 hG.out hS.out hS0.out
  clear hq0
  clear hb14 hB13 zu13 zz13 hc13
  clear HV HF
  go_wp2_with fail
  refine (refFills_any L A cap n X fA fcap m N 0 _ hlen hcap hcm hsz (Lib.hid (HL.out _ belA)) hm (Lib.hid (HX.out _ belA)) hD).mono ?_
  rintro e x15 ⟨rfl, hb15⟩
  have zz15 := hb15.size
  try simp at zz15
  have hc15 : Below x14.heap.size x14 x15 := belA
  have hB15 : Below w.heap.size w x15 := hB14.trans (hc15.mono hB14.size)
  have zu15 := hB15.size
  replace HSC := Lib.hid (HSC.out.below hc15)
  replace HSb := Lib.hid (HSb.out.below hc15)
  replace HPb := Lib.hid (HPb.out.below hc15)
  have HMb := Lib.hid ((blk_new x14 [.int .i64 0, .int .i64 0, .int .i64 0, .int .i64 0] 59).below hb15)
  clear hb15 hB14 zu14 zz14 hc14
  go_wp2_with fail
  refine (After_any L A cap n X fA fcap m N 0 _ hlen (Lib.hid (HL.out _ belA)) hm (Lib.hid (HX.out _ belA)) hC hD r hr).mono ?_
  rintro e x16 ⟨A6, n6, c6, a0, a1, a2, a3, a4, a5, a6, rfl, hb16, haft⟩
  have zz16 := hb16.size
  try simp at zz16
  have hc16 : Below x15.heap.size x15 x16 := belA
  have hB16 : Below w.heap.size w x16 := hB15.trans (hc16.mono hB15.size)
  have zu16 := hB16.size
  replace HSC := Lib.hid (HSC.out.below hc16)
  replace HSb := Lib.hid (HSb.out.below hc16)
  replace HPb := Lib.hid (HPb.out.below hc16)
  replace HMb := Lib.hid (HMb.out.below hc16)
  obtain ⟨rfl, hsd, _, rfl, rfl, rfl, rfl, rfl, rfl, rfl⟩ := haft rfl
  have HSD := Lib.hid hsd
  clear hsd
  clear hb16 hB15 zu15 zz15 hc15
  go_upto_region 13 with (fail)
  refine wp_world (fun u => BlkAt u x8.heap.size [.int .i64 r.g0, .int .i64 r.g1, .int .i64 r.g2, .int .i64 r.k0, .int .i64 r.k1, .int .i64 r.k2] ∧ BlkAt u x11.heap.size [.int .i64 (1000 * S / G.v), .int .i64 (upI (1000 * S) G.v)] ∧ BlkAt u x14.heap.size [.int .i64 0, .int .i64 0, .int .i64 0, .int .i64 0] ∧ BlkAt u x16.heap.size [.slice A6 r.H.length c6, .int .i64 r.g0, .int .i64 r.g1, .int .i64 r.g2, .int .i64 r.k0, .int .i64 r.k1, .int .i64 r.k2, .int .i64 r.dy] ∧ SlRows ctC 3 u Ac r.H ∧ SlRows ctC 3 u A6 r.H ∧ Below w.heap.size w u) ?_ (fun u hu => ?_)
  · exact ⟨HSb.out.below ((Below.refl x16.heap.size x16).alloc (Nat.le_refl _) _), HPb.out.below ((Below.refl x16.heap.size x16).alloc (Nat.le_refl _) _), HMb.out.below ((Below.refl x16.heap.size x16).alloc (Nat.le_refl _) _), blk_new x16 _ _, HSC.out.below ((Below.refl x16.heap.size x16).alloc (Nat.le_refl _) _), HSD.out.below ((Below.refl x16.heap.size x16).alloc (Nat.le_refl _) _), hB16.alloc hB16.size _⟩
  obtain ⟨us, up, um, ub, uc, ud, hBu⟩ := hu
  clear HSb HPb HMb HSC HSD hB16 zu16 zz16 hc16
  have US := Lib.hid us
  have UP := Lib.hid up
  have UM := Lib.hid um
  have UB := Lib.hid ub
  have UC := Lib.hid uc
  have UD := Lib.hid ud
  obtain ⟨sl, s0, s1, s2, s3, s4, s5⟩ := blk6 us
  obtain ⟨bl, b0, b1, b2, b3, b4, b5, b6, b7⟩ := blk8 ub
  clear us up um ub uc ud
  have zuu := hBu.size
  have HLN2 := HLN.out
  have HBu := Lib.hid hBu
  clear hBu
  obtain ⟨ab, ao, hA1, hA2⟩ : ∃ ab ao, (r.H.length = 0 ∨ Ac = some ⟨ab, ao, none⟩) ∧ Hid (r.H = [] ∨ (ab < u.heap.size ∧ RowsAt ctC 3 u ab ao r.H)) := by
    rcases UC.out with h | ⟨b, o, e1, e2, e3⟩
    · exact ⟨0, 0, Or.inl (by rw [h]; rfl), Lib.hid (Or.inl h)⟩
    · exact ⟨b, o, Or.inr e1, Lib.hid (Or.inr ⟨e2, e3⟩)⟩
  obtain ⟨db, dd, hD1, hD2⟩ : ∃ ab ao, (r.H.length = 0 ∨ A6 = some ⟨ab, ao, none⟩) ∧ Hid (r.H = [] ∨ (ab < u.heap.size ∧ RowsAt ctC 3 u ab ao r.H)) := by
    rcases UD.out with h | ⟨b, o, e1, e2, e3⟩
    · exact ⟨0, 0, Or.inl (by rw [h]; rfl), Lib.hid (Or.inl h)⟩
    · exact ⟨b, o, Or.inr e1, Lib.hid (Or.inr ⟨e2, e3⟩)⟩
  go_wp2
  go_loopw [20] (fun i wr => ∃ k : Nat, k ≤ r.H.length ∧ i = .int .i64 k ∧ Below u.heap.size u wr) (fun i _ => r.H.length - (intOf i).toNat)
  case atStart => exact ⟨0, by omega, rfl, Below.refl _ _⟩
  case round =>
    obtain ⟨k, hk, rfl, hW⟩ := hrel
    have zw := hW.size
    clear s0 s1 s2 s3 s4 s5 b0 b1 b2 b3 b4 b5 b6 b7
    have UBw := UB.out.below hW
    obtain ⟨bl, b0, b1, b2, b3, b4, b5, b6, b7⟩ := blk8 UBw
    by_cases hkn : k < r.H.length
    · have kn : (k : Int) < (r.H.length : Int) := by omega
      have hHne : ¬ r.H = [] := fun h => by rw [h] at hkn; simp at hkn
      obtain ⟨la, ra⟩ := hA2.out.resolve_left hHne
      obtain ⟨ld, rd⟩ := hD2.out.resolve_left hHne
      have eA := hA1.resolve_left (by omega)
      have eD := hD1.resolve_left (by omega)
      subst eA
      subst eD
      obtain ⟨x, hx⟩ : ∃ x, Hid (r.H[k] = x) := ⟨_, Lib.hid rfl⟩
      have ra' := ra.below hW la
      have rd' := rd.below hW ld
      clear hA2 hD2 ra rd hA1 hD1
      go_upto_region 18 with (fail)
      refine wp_region_held_drew (S := (fun w' => RowsAt ctC 3 w' ab ao r.H ∧ RowsAt ctC 3 w' db dd r.H ∧ w'.cell? ⟨x16.heap.size, 0, none⟩ = some (.slice (some ⟨db, dd, none⟩) r.H.length c6))) (by kernel_rfl) ⟨ra'.below ((Below.refl wr.heap.size wr).drew) (by omega), rd'.below ((Below.refl wr.heap.size wr).drew) (by omega), by simp [go_sem, *]⟩ (fun hHeld => ?_)
      refine tkA 0 146 rfl ?_
      refine tkA 1 147 rfl ?_
      refine tkA 2 148 rfl ?_
      refine tkH 3 ⟨some 149, _, _, _, _, _⟩ ?_ rfl ?_ (by assumption) ?_
      rotate_left
      · intro wy hSw
        have hxc := ctr_at hSw.1 hkn
        rw [hx.out] at hxc
        obtain ⟨q0, q1, q2⟩ := hxc
        go_simp
        all_goals with_reducible rfl
      try simp only [Act.put, sA, sB, sC]
      refine tkA 4 150 rfl ?_
      refine tkH 5 ⟨some 151, _, _, _, _, _⟩ ?_ rfl ?_ (by assumption) ?_
      rotate_left
      · intro wy hSw
        have hxc := hSw.2.2
        go_simp
        all_goals with_reducible rfl
      try simp only [Act.put, sA, sB, sC]
      refine tkA 6 152 rfl ?_
      refine tkA 7 153 rfl ?_
      refine tkH 8 ⟨some 154, _, _, _, _, _⟩ ?_ rfl ?_ (by assumption) ?_
      rotate_left
      · intro wy hSw
        have hxc := ctr_at hSw.2.1 hkn
        rw [hx.out] at hxc
        obtain ⟨q0, q1, q2⟩ := hxc
        go_simp
        all_goals with_reducible rfl
      try simp only [Act.put, sA, sB, sC]
      refine tkH 9 ⟨some 155, _, _, _, _, _⟩ ?_ rfl ?_ (by assumption) ?_
      rotate_left
      · intro wy hSw
        have hne := neC x.a x.b x.c wy
        go_simp
        all_goals with_reducible rfl
      try simp only [Act.put, sA, sB, sC]
      refine wpAnyH_done (by kernel_rfl) ?_ _
      have hW2 : Below u.heap.size u wr.drew := hW.drew
      clear hHeld ra' rd'
      go_wp2
      go_roundw
      case rel => exact ⟨k + 1, by omega, by go_num, hW2⟩
      case measure => simp [intOf]; omega
    · have kn : ¬ (k : Int) < (r.H.length : Int) := by omega
      go_wp2_with fail
      have hBw : Below w.heap.size w wr := HBu.out.trans (hW.mono HBu.out.size)
      refine (refFind_b L A cap n s q _ hlen (by omega) (HL.out _ hBw) hf).mono ?_
      rintro e y1 ⟨rfl, hy1⟩
      have hV : Below u.heap.size u y1 := hW.trans (hy1.mono hW.size)
      have hBy := Lib.hid (hBw.trans (hy1.mono hBw.size))
      have zy := hV.size
      clear b0 b1 b2 b3 b4 b5 b6 b7 bl hy1 hW zw hBw UBw
      have up := UP.out.below hV
      have um := UM.out.below hV
      have ub := UB.out.below hV
      obtain ⟨pl, p0, p1⟩ := blk2 up
      obtain ⟨ml, m0, m1, m2, m3⟩ := blk4 um
      obtain ⟨bl, b0, b1, b2, b3, b4, b5, b6, b7⟩ := blk8 ub
      clear up um ub
      have hHne : ¬ r.H = [] := fun h => by rw [h] at hq1; simp at hq1
      obtain ⟨ld, rd⟩ := hD2.out.resolve_left hHne
      have eD := hD1.resolve_left (by omega)
      subst eD
      have rd := rd.below hV ld
      have ld : db < y1.heap.size := by omega
      have hcc := ctr_at rd hq1
      rw [hG.out] at hcc
      obtain ⟨d0, d1, d2⟩ := hcc
      have qn : ¬ (q : Int) < 0 := by omega
      have qn2 : (0 : Int) ≤ (q : Int) := by omega
      have qn3 : (q : Int) < (r.H.length : Int) := by omega
      have qn4 : (q : Int) < (n : Int) := by omega
      have hgm : Hid (hdS G = L[q]'(by have := hlen.out; omega)) := Lib.hid (by have h2 := HM.out; rw [← hG.out]; simp only [← h2, List.getElem_map])
      obtain ⟨vb, vo, eV, lv, rv⟩ : ∃ vb vo, A = some ⟨vb, vo, none⟩ ∧ vb < y1.heap.size ∧ RowsAt veV 3 y1 vb vo L := by
        rcases HL.out _ hBy.out with h | ⟨b, o, e1, e2, e3⟩
        · have := hlen.out; rw [h] at this; simp at this; omega
        · exact ⟨b, o, e1, e2, e3⟩
      subst eV
      have hvv := ve_at rv (k := q) (by have := hlen.out; omega)
      rw [← hgm.out] at hvv
      obtain ⟨v0, v1, v2⟩ := hvv
      replace v0 : _ = some (Value.string G.nm) := v0
      replace v1 : _ = some (Value.int .i64 G.v) := v1
      replace v2 : _ = some (Value.int .i64 G.m) := v2
      clear rd rv
      go_upto_region 23 with (fail)
      refine wp_region_held_drew (S := (fun w' => w'.cell? ⟨x11.heap.size, 0, none⟩ = some (.int .i64 (1000 * S / G.v)) ∧ w'.cell? ⟨x11.heap.size, 1, none⟩ = some (.int .i64 (upI (1000 * S) G.v)) ∧ w'.cell? ⟨vb, vo + q * 3, none⟩ = some (.string G.nm) ∧ w'.cell? ⟨vb, vo + q * 3 + 1, none⟩ = some (.int .i64 G.v) ∧ w'.cell? ⟨vb, vo + q * 3 + 2, none⟩ = some (.int .i64 G.m) ∧ w'.cell? ⟨x16.heap.size, 0, none⟩ = some (.slice (some ⟨db, dd, none⟩) r.H.length c6) ∧ w'.cell? ⟨db, dd + q * 3, none⟩ = some (.int .i64 G.a) ∧ w'.cell? ⟨db, dd + q * 3 + 1, none⟩ = some (.int .i64 G.b) ∧ w'.cell? ⟨db, dd + q * 3 + 2, none⟩ = some (.int .i64 G.c))) (by kernel_rfl) (by simp [go_sem, cP, *]) (fun hHeld => ?_)
      refine tkA 0 177 rfl ?_
      refine tkA 1 178 rfl ?_
      refine tkA 2 179 rfl ?_
      refine tkA 3 180 rfl ?_
      refine tkA 4 181 rfl ?_
      refine tkA 5 182 rfl ?_
      refine tkA 6 183 rfl ?_
      refine tkA 7 184 rfl ?_
      refine tkA 8 185 rfl ?_
      refine tkA 9 186 rfl ?_
      refine tkA 10 187 rfl ?_
      refine tkA 11 188 rfl ?_
      refine tkA 12 189 rfl ?_
      refine rdA 13 rfl (fun K hK => ?_)
      go_simp
      refine (refPressureOf_any G.nm G.v G.m G.a G.b G.c S _ hcB hS gv1 gv2).mono ?_
      rintro e y2 ⟨rfl, hbY⟩
      have zY := hbY.size
      try simp at zY
      obtain ⟨f0, f1, f2, f3, f4, f5, f6, f7, f8, f9, f10, f11, f12⟩ : y2.cell? ⟨x11.heap.size, 0, none⟩ = some (.int .i64 (1000 * S / G.v)) ∧ y2.cell? ⟨x11.heap.size, 1, none⟩ = some (.int .i64 (upI (1000 * S) G.v)) ∧ y2.cell? ⟨vb, vo + q * 3, none⟩ = some (.string G.nm) ∧ y2.cell? ⟨vb, vo + q * 3 + 1, none⟩ = some (.int .i64 G.v) ∧ y2.cell? ⟨vb, vo + q * 3 + 2, none⟩ = some (.int .i64 G.m) ∧ y2.cell? ⟨x16.heap.size, 0, none⟩ = some (.slice (some ⟨db, dd, none⟩) r.H.length c6) ∧ y2.cell? ⟨db, dd + q * 3, none⟩ = some (.int .i64 G.a) ∧ y2.cell? ⟨db, dd + q * 3 + 1, none⟩ = some (.int .i64 G.b) ∧ y2.cell? ⟨db, dd + q * 3 + 2, none⟩ = some (.int .i64 G.c) ∧ y2.cell? ⟨x14.heap.size, 0, none⟩ = some (.int .i64 0) ∧ y2.cell? ⟨x14.heap.size, 1, none⟩ = some (.int .i64 0) ∧ y2.cell? ⟨x14.heap.size, 2, none⟩ = some (.int .i64 0) ∧ y2.cell? ⟨x14.heap.size, 3, none⟩ = some (.int .i64 0) := by refine ⟨?_, ?_, ?_, ?_, ?_, ?_, ?_, ?_, ?_, ?_, ?_, ?_, ?_⟩ <;> (rw [bc1 hbY]; simp [go_sem, cP, *])
      have hBY := Lib.hid (hBy.out.drew.trans (hbY.mono (by first | exact hBy.out.drew.size | (have := hBy.out.drew.size; simp; omega))))
      have lYa : vb < y2.heap.size := by omega
      have lYb : db < y2.heap.size := by omega
      have lYc : x11.heap.size < y2.heap.size := by omega
      have lYd : x14.heap.size < y2.heap.size := by omega
      have lYe : x16.heap.size < y2.heap.size := by omega
      go_wp2_with fail
      refine hK.out _ _ (by simp [go_sem, cP, *]) (fun hHeld => ?_)
      clear hK K hbY p0 p1 m0 m1 m2 m3 b0 b1 b2 b3 b4 b5 b6 b7 d0 d1 d2 v0 v1 v2
      try simp only [Act.put, sA, sB, sC]
      refine tkH 14 ⟨some 191, _, _, _, _, _⟩ ?_ rfl ?_ (by assumption) ?_
      rotate_left
      · intro wy hSw
        have hne := neR (1000 * S / G.v) (upI (1000 * S) G.v) wy
        go_simp
        all_goals with_reducible rfl
      try simp only [Act.put, sA, sB, sC]
      refine tkA 15 192 rfl ?_
      refine wpAnyH_done (by kernel_rfl) ?_ _
      clear hHeld
      go_wp2_with fail
      refine (refSum_ok G.a G.b G.c S _ hcB hS).mono ?_
      rintro e y3 ⟨rfl, hbZ⟩
      have zZ := hbZ.size
      try simp at zZ
      obtain ⟨g0, g1, g2, g3, g4, g5, g6, g7, g8, g9, g10, g11, g12⟩ : y3.cell? ⟨x11.heap.size, 0, none⟩ = some (.int .i64 (1000 * S / G.v)) ∧ y3.cell? ⟨x11.heap.size, 1, none⟩ = some (.int .i64 (upI (1000 * S) G.v)) ∧ y3.cell? ⟨vb, vo + q * 3, none⟩ = some (.string G.nm) ∧ y3.cell? ⟨vb, vo + q * 3 + 1, none⟩ = some (.int .i64 G.v) ∧ y3.cell? ⟨vb, vo + q * 3 + 2, none⟩ = some (.int .i64 G.m) ∧ y3.cell? ⟨x16.heap.size, 0, none⟩ = some (.slice (some ⟨db, dd, none⟩) r.H.length c6) ∧ y3.cell? ⟨db, dd + q * 3, none⟩ = some (.int .i64 G.a) ∧ y3.cell? ⟨db, dd + q * 3 + 1, none⟩ = some (.int .i64 G.b) ∧ y3.cell? ⟨db, dd + q * 3 + 2, none⟩ = some (.int .i64 G.c) ∧ y3.cell? ⟨x14.heap.size, 0, none⟩ = some (.int .i64 0) ∧ y3.cell? ⟨x14.heap.size, 1, none⟩ = some (.int .i64 0) ∧ y3.cell? ⟨x14.heap.size, 2, none⟩ = some (.int .i64 0) ∧ y3.cell? ⟨x14.heap.size, 3, none⟩ = some (.int .i64 0) := by refine ⟨?_, ?_, ?_, ?_, ?_, ?_, ?_, ?_, ?_, ?_, ?_, ?_, ?_⟩ <;> (rw [bc1 hbZ]; simp [go_sem, cP, *])
      have hBZ := Lib.hid (hBY.out.trans (hbZ.mono (by first | exact hBY.out.size | (have := hBY.out.size; simp; omega))))
      have lZa : vb < y3.heap.size := by omega
      have lZb : db < y3.heap.size := by omega
      have lZc : x11.heap.size < y3.heap.size := by omega
      have lZd : x14.heap.size < y3.heap.size := by omega
      have lZe : x16.heap.size < y3.heap.size := by omega
      clear hbZ f0 f1 f2 f3 f4 f5 f6 f7 f8 f9 f10 f11 f12
      have hS9 := hS0.out
      subst hS9
      go_wp2
      go_ret
      exact ⟨rfl, hBZ.out⟩
end Go.Proofs.Ytjkhjjmmkdfjmaa
