import Derived.Test.YtjkhjjmmkdfjmaaGTGStp
import Derived.Test.YtjkhjjmmkdfjmaaGTGMod
import Derived.Test.YtjkhjjmmkdfjmaaGTAddFil
import Derived.Test.YtjkhjjmmkdfjmaaGTLastReg
import Derived.Test.YtjkhjjmmkdfjmaaGTApg
import Derived.Test.YtjkhjjmmkdfjmaaGTLawC0
import Derived.Deep.DrawnRows
import Derived.Outline
namespace Go.Proofs.Ytjkhjjmmkdfjmaa
open Go.ChangeShapes Go.WideShapes Go.ChangeAt Go.RowKit
set_option linter.unusedVariables false
set_option linter.unusedSimpArgs false
attribute [local go_sem ↓] Go.wp_at_zero Go.wp_at_succ
set_option maxHeartbeats 16000000 in
set_option maxRecDepth 100000 in
theorem gasBal_walk (L : List Ve) (A : Option Addr) (cap n : Nat) (X : List Fl) (fA : Option Addr) (fcap m : Nat) (cut : Int) (w : World) (hlen : Hid (n = L.length)) (hm : Hid (m = X.length)) (hl : n ≤ 9223372036854775807) (hml : m ≤ 9223372036854775807) (hL : Hid (SlRows veV 3 w A L)) (hX : Hid (SlRows flV 8 w fA X)) (cA : A = none → cap = 0) (cF : fA = none → fcap = 0) (hcap : n ≤ cap) (hcm : (cap : Int) ≤ 9223372036854775807) (hfc : m ≤ fcap) :
    Calls Try.prog 11 #[.slice A n cap, .slice fA m fcap, .int .i64 cut] w fun e w' => e = .returned (.bool true) ∧ Below w.heap.size w w' := by
  have HL : Hid (∀ x, Below w.heap.size w x → SlRows veV 3 x A L) := Lib.hid fun x hx => hL.out.below hx
  have HX : Hid (∀ x, Below w.heap.size w x → SlRows flV 8 x fA X) := Lib.hid fun x hx => hX.out.below hx
  go_enter Try.func11, Try.ntmps11
  go_wp2_with fail
  refine (filled_any _).mono ?_
  rintro e x1 ⟨rfl, hbx1⟩
  have zzx1 := hbx1.size
  try simp at zzx1
  have hcx1 : Below w.heap.size w x1 := belA
  have hBx1 : Below w.heap.size w x1 := hcx1
  have zux1 := hBx1.size
  clear hbx1
  go_wp2_with fail
  refine (Short_any L A cap n X fA fcap m _ hlen hl (Lib.hid (HL.out _ belA)) hm hml (Lib.hid (HX.out _ belA))).mono ?_
  rintro e x2 ⟨hsh, hbx2⟩
  have zzx2 := hbx2.size
  try simp at zzx2
  have hcx2 : Below x1.heap.size x1 x2 := belA
  have hBx2 : Below w.heap.size w x2 := hBx1.trans (hcx2.mono hBx1.size)
  have zux2 := hBx2.size
  clear hbx2 hBx1 zux1 zzx1 hcx1
  rcases hsh with rfl | ⟨rfl, hsh⟩
  · go_wp2
    go_ret
    exact ⟨rfl, hBx2⟩
  obtain ⟨hs1, hs2, hs3, hs4⟩ := hsh
  have n22 : n ≤ 22 := by have := hlen.out; omega
  have m202 : m ≤ 202 := by have := hm.out; omega
  have hsz : Hid (∀ g ∈ L, g.nm.size ≤ 1000000) := Lib.hid fun g hg => by have := hs1 g hg; omega
  obtain ⟨N, E, hD'⟩ : ∃ N E, behP L X = (N, E) := ⟨_, _, rfl⟩
  have hD := Lib.hid hD'
  have HS4 := Lib.hid hs4
  clear hs1 hs2 hs3 hs4 hD'
  go_wp2_with fail
  refine (refFills_any L A cap n X fA fcap m N E _ hlen hcap hcm hsz (Lib.hid (HL.out _ belA)) hm (Lib.hid (HX.out _ belA)) hD).mono ?_
  rintro e x3 ⟨rfl, hbx3⟩
  have zzx3 := hbx3.size
  try simp at zzx3
  have hcx3 : Below x2.heap.size x2 x3 := belA
  have hBx3 : Below w.heap.size w x3 := hBx2.trans (hcx3.mono hBx2.size)
  have zux3 := hBx3.size
  clear hbx3 hBx2 zux2 zzx2 hcx2
  by_cases hE0 : ¬ E = 0
  · have hE1 : (E != 0) = true := by simpa using hE0
    go_wp2
    go_ret
    exact ⟨rfl, hBx3⟩
  obtain rfl : E = 0 := by omega
  have k12 : Hid (m ≤ 12) := Lib.hid (by have := (beh_len (by rw [hD.out] : (behP L X).2 = 0)).2; have := HS4.out; have := hm.out; omega)
  clear HS4
  have md := modI_bd cut (b := (m : Int) + 1) (by omega)
  obtain ⟨kc, hkc⟩ : ∃ kc : Nat, Hid (modI cut ((m : Int) + 1) = kc) := ⟨_, Lib.hid (Int.toNat_of_nonneg md.1).symm⟩
  have kcm : kc ≤ m := by have := hkc.out; omega
  have hsl := slice_cut fA m fcap kc kcm hfc cF
  clear md hE0
  go_wp2_with fail
  refine (Mod_is cut ((m : Int) + 1) kc _ (by omega) (by omega) hkc).mono ?_
  rintro e x3' ⟨rfl, rfl⟩
  obtain ⟨Y, hY⟩ : ∃ Y, Hid (X.take kc = Y) := ⟨_, Lib.hid rfl⟩
  have HY : Hid (∀ x, Below w.heap.size w x → SlRows flV 8 x fA Y) := Lib.hid fun x hx => by rw [← hY.out]; exact SlRows.part (HX.out x hx) kc
  have hkY : Hid (kc = Y.length) := Lib.hid (by rw [← hY.out, List.length_take]; have := hm.out; omega)
  have hDY : Hid (behP L Y = (0, 0)) := Lib.hid (by rw [← hY.out]; exact behP_take hD.out kc)
  obtain ⟨r, hr⟩ : ∃ r, Hid (runR (rm0 L) Y = r) := ⟨_, Lib.hid rfl⟩
  have hmap := (beh_all hDY.out).2.2.2
  rw [hr.out] at hmap
  have hln : r.H.length = n := by have h2 := congrArg List.length hmap; rw [List.length_map] at h2; rw [hlen.out]; exact h2
  have n20 : n ≤ 20 := by have := (beh_len (by rw [hDY.out] : (behP L Y).2 = 0)).1; have := hlen.out; omega
  have k200 : kc ≤ 200 := by have := (beh_len (by rw [hDY.out] : (behP L Y).2 = 0)).2; have := hkY.out; omega
  have HM := Lib.hid hmap
  have HLN := Lib.hid hln
  clear hmap hX HX hD hY
  go_wp2_with fail
  refine (Contents_any L A cap n Y fA fcap kc 0 0 r _ hlen (by omega) hsz (Lib.hid (HL.out _ belA)) hkY (Lib.hid (HY.out _ belA)) hDY hr (fun _ => by omega)).mono ?_
  rintro e x4 ⟨hq, hbx4⟩
  have zzx4 := hbx4.size
  try simp at zzx4
  have hcx4 : Below x3.heap.size x3 x4 := belA
  have hBx4 : Below w.heap.size w x4 := hBx3.trans (hcx4.mono hBx3.size)
  have zux4 := hBx4.size
  obtain ⟨_, Ac, nc, cc, rfl, hnc, hsc⟩ := hq.resolve_left (fun h => h.1 rfl)
  obtain hnc2 : n = nc := hln.symm.trans hnc.symm
  subst hnc2
  have HSC := Lib.hid hsc
  clear hsc hnc hln hq
  clear hbx4 hBx3 zux3 zzx3 hcx3
  have hmk := fun (w : World) => mkCt n20 w
  obtain ⟨zz, hzz⟩ : ∃ zz, Hid (ctZ n = zz) := ⟨_, Lib.hid rfl⟩
  rw [hzz.out] at hmk
  go_upto_region 13 with (fail)
  obtain ⟨nb, hnb⟩ : ∃ b, x4.heap.size = b := ⟨_, rfl⟩
  refine wp_world (GbS w x4.heap.size x4.heap.size Ac r.H (rm0 L).H) ⟨?_, by intro j; simp [go_sem], by simp, Nat.le_refl _, zux4, ?_, belA⟩ (fun u hu => ?_)
  · intro k hk i hi
    have hk2 : k < n := by rw [hlen.out]; simpa [rm0] using hk
    have e : (ctC (rm0 L).H[k])[i]? = some (.int .i64 0) := by
      have : (rm0 L).H[k] = hd0 (L[k]'(by rw [← hlen.out]; exact hk2)) := by simp [rm0]
      rw [this]
      rcases (show i = 0 ∨ i = 1 ∨ i = 2 by omega) with rfl | rfl | rfl <;> rfl
    rw [e, ← hzz.out]
    have hlt : k * 3 + i < n * 3 := by omega
    simp only [Nat.zero_add]
    unfold ctZ
    simp [go_sem, cP, hlt]
  · rcases HSC.out with h | ⟨ab, ao, e, hab, hra⟩
    · exact Or.inl h
    · exact Or.inr ⟨ab, ao, e, hab, hra.below (show Below x4.heap.size x4 _ from belA) hab⟩
  have HU := Lib.hid hu
  clear hu hmk HSC hBx4 zux4 zzx4 hcx4 zz hzz
  rw [hnb] at HU ⊢
  clear hnb
  go_wp2
  go_loopw [12, 13] (fun d i wr => ∃ j : Nat, j ≤ kc ∧ i = .int .i64 j ∧ d = .int .i64 (runR (rm0 L) (Y.take j)).dy ∧ Hid (GbS w nb nb Ac r.H (runR (rm0 L) (Y.take j)).H wr)) (fun _ i _ => kc - (intOf i).toNat)
  case atStart => exact ⟨0, by omega, rfl, rfl, HU⟩
  case round =>
    clear HU
    obtain ⟨j, hj, rfl, rfl, HU⟩ := hrel
    by_cases hjm : j < kc
    · skip
      have jn : (j : Int) < (kc : Int) := by omega
      have hjl : j < Y.length := by have := hkY.out; omega
      obtain ⟨st, hdy, am1, am2, hG, hHl⟩ := stp_at hDY.out hjl
      obtain ⟨fb, fo, efA⟩ : ∃ b o, fA = some ⟨b, o, none⟩ := by
        rcases HY.out _ HU.out.be with h | ⟨b, o, e, _⟩
        · rw [h] at hjl; simp at hjl
        · exact ⟨b, o, e⟩
      subst efA
      obtain ⟨x, hx⟩ : ∃ x, Hid (Y[j] = x) := ⟨_, Lib.hid rfl⟩
      have HF : Hid (∀ y, Below wr.heap.size wr y → y.cell? ⟨fb, fo + j * 8, none⟩ = some (.int .i64 x.k) ∧ y.cell? ⟨fb, fo + j * 8 + 1, none⟩ = some (.int .i64 x.d) ∧ y.cell? ⟨fb, fo + j * 8 + 2, none⟩ = some (.string x.fr) ∧ y.cell? ⟨fb, fo + j * 8 + 3, none⟩ = some (.string x.tz) ∧ y.cell? ⟨fb, fo + j * 8 + 4, none⟩ = some (.int .i64 x.o) ∧ y.cell? ⟨fb, fo + j * 8 + 5, none⟩ = some (.int .i64 x.h) ∧ y.cell? ⟨fb, fo + j * 8 + 6, none⟩ = some (.int .i64 x.am) ∧ y.cell? ⟨fb, fo + j * 8 + 7, none⟩ = some (.bool x.pu)) := Lib.hid fun y hy => by
        rcases HY.out y (HU.out.be.trans (hy.mono HU.out.be.size)) with h | ⟨b, o, e, _, hR⟩
        · rw [h] at hjl; simp at hjl
        · cases e
          have := fl_at hR hjl
          rw [hx.out] at this
          exact this
      rw [hx.out] at st hdy am1 am2 hG
      obtain ⟨H, hH⟩ : ∃ H, Hid ((runR (rm0 L) (Y.take j)).H = H) := ⟨_, Lib.hid rfl⟩
      obtain ⟨H2, hH2⟩ : ∃ H, Hid ((runR (rm0 L) (Y.take (j + 1))).H = H) := ⟨_, Lib.hid rfl⟩
      rw [hH.out] at HU st hHl
      rw [hH2.out] at st
      have HDY2 := Lib.hid hdy
      have HG := Lib.hid hG
      have hHn : H.length = n := by rw [hHl, hlen.out]
      obtain ⟨iF, hiF⟩ : ∃ i, Hid (fndV x.fr L = i) := ⟨_, Lib.hid rfl⟩
      obtain ⟨iT, hiT⟩ : ∃ i, Hid (fndV x.tz L = i) := ⟨_, Lib.hid rfl⟩
      obtain ⟨P, hP⟩ : ∃ z, Hid (x.am * x.o / 1000 = z) := ⟨_, Lib.hid rfl⟩
      obtain ⟨Q, hQ⟩ : ∃ z, Hid (x.am * x.h / 1000 = z) := ⟨_, Lib.hid rfl⟩
      obtain ⟨Z, hZ⟩ : ∃ z, Hid (x.am - (P + Q) = z) := ⟨_, Lib.hid rfl⟩
      obtain ⟨-, -, -, -, -, -, e1, P0, Q0, Z0, P1, Q1, Z1⟩ := bri_math hG am1 am2 hP.out hQ.out hZ.out
      have ST := Lib.hid st
      have HW := HU.out.be
      have zw := HW.size
      have HLW : Hid (∀ y, Below wr.heap.size wr y → SlRows veV 3 y A L) := Lib.hid fun y hy => HL.out _ (HU.out.be.trans (hy.mono HU.out.be.size))
      have HK : Hid (H.length = n) := Lib.hid hHn
      have HJ : Hid (j < Y.length) := Lib.hid hjl
      clear st hdy hG hHl e1 hHn HW zw
      go_upto_region 17 with (fail)
      have HS17 : Hid (∀ y, Below wr.heap.size wr y → y.cell? ⟨fb, fo + j * 8 + 2, none⟩ = some (.string x.fr) ∧ y.cell? ⟨fb, fo + j * 8 + 3, none⟩ = some (.string x.tz)) := Lib.hid fun y hy => (let h := HF.out y (hy); ⟨h.2.2.1, h.2.2.2.1⟩)
      refine wp_region_held_drew (S := (fun w' => w'.cell? ⟨fb, fo + j * 8 + 2, none⟩ = some (.string x.fr) ∧ w'.cell? ⟨fb, fo + j * 8 + 3, none⟩ = some (.string x.tz))) (by kernel_rfl) (HS17.out _ (Below.refl _ _).drew) (fun hHeld => ?_)
      have hT0 : Below wr.heap.size wr wr.drew := (Below.refl _ _).drew
      generalize hdr : wr.drew = v0 at *
      clear hdr
      refine tkA 0 74 rfl ?_
      refine tkA 1 75 rfl ?_
      refine tkA 2 76 rfl ?_
      refine tkA 3 77 rfl ?_
      refine tkA 4 78 rfl ?_
      refine tkA 5 79 rfl ?_
      refine tkA 7 81 rfl ?_
      refine tkA 8 82 rfl ?_
      refine tkA 9 83 rfl ?_
      refine tkA 10 84 rfl ?_
      refine tkA 11 85 rfl ?_
      refine tkA 12 86 rfl ?_
      refine rdA 6 rfl (fun K hK => ?_)
      go_simp
      refine (refFind_b L A cap n x.fr iF _ hlen (by omega) (HLW.out _ hT0) hiF).mono ?_
      rintro e v1 ⟨rfl, hbv0⟩
      have hT1 : Below wr.heap.size wr v1 := hT0.trans (hbv0.mono hT0.size)
      clear hbv0
      go_wp2_with fail
      refine hK.out _ _ (HS17.out _ hT1) (fun hHeld => ?_)
      clear hK K
      try simp only [Act.put, sA, sB, sC]
      refine rdA 13 rfl (fun K hK => ?_)
      go_simp
      refine (refFind_b L A cap n x.tz iT _ hlen (by omega) (HLW.out _ hT1) hiT).mono ?_
      rintro e v2 ⟨rfl, hbv1⟩
      have hT2 : Below wr.heap.size wr v2 := hT1.trans (hbv1.mono hT1.size)
      clear hbv1
      go_wp2_with fail
      refine hK.out _ _ (HS17.out _ hT2) (fun hHeld => ?_)
      clear hK K
      try simp only [Act.put, sA, sB, sC]
      refine tkA 14 14 rfl ?_
      refine tkA 15 15 rfl ?_
      refine wpAnyH_done (by kernel_rfl) ?_ _
      have hW2 : Below wr.heap.size wr v2 := hT2
      replace HU := Lib.hid (HU.out.below hW2)
      clear HS17
      obtain ⟨f0, f1, f2, f3, f4, f5, f6, f7⟩ := HF.out _ hW2
      go_upto_region 19 with (fail)
      clear f0 f1 f2 f3 f4 f5 f6 f7
      have w2z := hW2.size
      have nbv := HU.out.ln
      go_cut [16] from 68 to 154 (fun s16 wx => ∃ pb, s16 = .pointer (some ⟨pb, 0, none⟩) ∧ BlkF wx v2.heap.size pb [.int .i64 P, .int .i64 Q, .int .i64 Z] ∧ Below v2.heap.size v2 wx)
      case first =>
        have HS19 : Hid (∀ y, Below v2.heap.size v2 y → y.cell? ⟨fb, fo + j * 8 + 4, none⟩ = some (.int .i64 x.o) ∧ y.cell? ⟨fb, fo + j * 8 + 5, none⟩ = some (.int .i64 x.h) ∧ y.cell? ⟨fb, fo + j * 8 + 6, none⟩ = some (.int .i64 x.am)) := Lib.hid fun y hy => (let h := HF.out y (hW2.trans (hy.mono hW2.size)); ⟨h.2.2.2.2.1, h.2.2.2.2.2.1, h.2.2.2.2.2.2.1⟩)
        clear HU HF HLW ST HL HY
        refine wp_region_held_drew (S := (fun w' => w'.cell? ⟨fb, fo + j * 8 + 4, none⟩ = some (.int .i64 x.o) ∧ w'.cell? ⟨fb, fo + j * 8 + 5, none⟩ = some (.int .i64 x.h) ∧ w'.cell? ⟨fb, fo + j * 8 + 6, none⟩ = some (.int .i64 x.am))) (by kernel_rfl) (HS19.out _ (Below.refl _ _).drew) (fun hHeld => ?_)
        have hT0 : Below v2.heap.size v2 v2.drew := (Below.refl _ _).drew
        generalize hdr : v2.drew = y0 at *
        clear hdr
        refine tkA 0 93 rfl ?_
        refine tkA 1 94 rfl ?_
        refine tkA 2 95 rfl ?_
        refine tkA 3 96 rfl ?_
        refine tkA 4 97 rfl ?_
        refine tkA 5 98 rfl ?_
        refine tkA 6 99 rfl ?_
        refine tkA 7 100 rfl ?_
        refine tkA 8 101 rfl ?_
        refine tkA 9 102 rfl ?_
        refine wpAnyH_ready (rs := [10, 11]) (by kernel_rfl) (by simp) ?_
        refine AllReadyH.cons rfl (fun K hK => ?_) (AllReadyH.cons rfl (fun K hK => ?_) (AllReadyH.nil))
        · skip
          go_simp
          refine (refPure_any x.o x.h x.am P Q Z _ HG am1 am2 hP hQ hZ).mono ?_
          rintro e y1 ⟨rfl, hby0⟩
          have hT1 : Below v2.heap.size v2 y1 := hT0.trans (hby0.mono hT0.size)
          clear hby0
          go_wp2_with fail
          refine hK.out _ _ (HS19.out _ hT1) (fun hHeld => ?_)
          clear hK K
          try simp only [Act.put, sA, sB, sC]
          refine rdA 11 rfl (fun K hK => ?_)
          go_simp
          go_wp2_with fail
          refine hK.out _ _ (HS19.out _ (hT1.alloc hT1.size _)) (fun hHeld => ?_)
          clear hK K
          try simp only [Act.put, sA, sB, sC]
          have HNpb := Lib.hid (BlkF.made (B := v2.heap.size) y1 [.int .i64 0, .int .i64 0, .int .i64 0] 49 hT1.size)
          have hby1 : Below y1.heap.size y1 (y1.alloc (.cells #[.int .i64 0, .int .i64 0, .int .i64 0] 49)) := (Below.refl _ _).alloc (Nat.le_refl _) _
          have hnpb : v2.heap.size ≤ y1.heap.size := hT1.size
          have expb : ∃ x, y1.heap.size = x := ⟨_, rfl⟩
          generalize hq1 : y1.alloc (.cells #[.int .i64 0, .int .i64 0, .int .i64 0] 49) = y2 at *
          have hT2 : Below v2.heap.size v2 y2 := hT1.trans (hby1.mono hT1.size)
          obtain ⟨pb, epb⟩ := expb
          rw [epb] at HNpb hnpb ⊢
          clear hby1 hq1
          refine rdA 12 rfl (fun K hK => ?_)
          have HBs : Hid (BlkF (((y2.setCell ⟨pb, 0, none⟩ (.int .i64 P)).setCell ⟨pb, 1, none⟩ (.int .i64 Q)).setCell ⟨pb, 2, none⟩ (.int .i64 Z)) v2.heap.size pb [.int .i64 P, .int .i64 Q, .int .i64 Z]) := Lib.hid (BlkF.st (vs' := [.int .i64 P, .int .i64 Q, .int .i64 Z]) HNpb.out rfl)
          have hTs : Below v2.heap.size v2 (((y2.setCell ⟨pb, 0, none⟩ (.int .i64 P)).setCell ⟨pb, 1, none⟩ (.int .i64 Q)).setCell ⟨pb, 2, none⟩ (.int .i64 Z)) := stW_below HNpb.out.ge [.int .i64 P, .int .i64 Q, .int .i64 Z] y2 0 hT2
          obtain ⟨u_0, u_1, u_2⟩ := b3 HNpb.out
          have u_f := HNpb.out.fz
          go_simp
          go_wp2_with fail
          refine hK.out _ _ (HS19.out _ hTs) (fun hHeld => ?_)
          clear hK K
          try simp only [Act.put, sA, sB, sC]
          clear u_f u_0 u_1 u_2
          clear HNpb
          generalize hs2 : (((y2.setCell ⟨pb, 0, none⟩ (.int .i64 P)).setCell ⟨pb, 1, none⟩ (.int .i64 Q)).setCell ⟨pb, 2, none⟩ (.int .i64 Z)) = y3 at *
          clear hs2
          have hT3 := hTs
          clear hTs
          have HNpb := HBs
          clear HBs
          refine wpAnyH_done (by kernel_rfl) ?_ _
          go_wp2_with fail
          go_meet
          exact ⟨pb, rfl, HNpb.out, hT3⟩
        · skip
          go_simp
          go_wp2_with fail
          refine hK.out _ _ (HS19.out _ (hT0.alloc hT0.size _)) (fun hHeld => ?_)
          clear hK K
          try simp only [Act.put, sA, sB, sC]
          have HNpb := Lib.hid (BlkF.made (B := v2.heap.size) y0 [.int .i64 0, .int .i64 0, .int .i64 0] 49 hT0.size)
          have hby0 : Below y0.heap.size y0 (y0.alloc (.cells #[.int .i64 0, .int .i64 0, .int .i64 0] 49)) := (Below.refl _ _).alloc (Nat.le_refl _) _
          have hnpb : v2.heap.size ≤ y0.heap.size := hT0.size
          have expb : ∃ x, y0.heap.size = x := ⟨_, rfl⟩
          generalize hq0 : y0.alloc (.cells #[.int .i64 0, .int .i64 0, .int .i64 0] 49) = y1 at *
          have hT1 : Below v2.heap.size v2 y1 := hT0.trans (hby0.mono hT0.size)
          obtain ⟨pb, epb⟩ := expb
          rw [epb] at HNpb hnpb ⊢
          clear hby0 hq0
          refine rdA 10 rfl (fun K hK => ?_)
          go_simp
          refine (refPure_any x.o x.h x.am P Q Z _ HG am1 am2 hP hQ hZ).mono ?_
          rintro e y2 ⟨rfl, hby1⟩
          have hT2 : Below v2.heap.size v2 y2 := hT1.trans (hby1.mono hT1.size)
          replace HNpb := Lib.hid (HNpb.out.below hby1)
          clear hby1
          go_wp2_with fail
          refine hK.out _ _ (HS19.out _ hT2) (fun hHeld => ?_)
          clear hK K
          try simp only [Act.put, sA, sB, sC]
          refine rdA 12 rfl (fun K hK => ?_)
          have HBs : Hid (BlkF (((y2.setCell ⟨pb, 0, none⟩ (.int .i64 P)).setCell ⟨pb, 1, none⟩ (.int .i64 Q)).setCell ⟨pb, 2, none⟩ (.int .i64 Z)) v2.heap.size pb [.int .i64 P, .int .i64 Q, .int .i64 Z]) := Lib.hid (BlkF.st (vs' := [.int .i64 P, .int .i64 Q, .int .i64 Z]) HNpb.out rfl)
          have hTs : Below v2.heap.size v2 (((y2.setCell ⟨pb, 0, none⟩ (.int .i64 P)).setCell ⟨pb, 1, none⟩ (.int .i64 Q)).setCell ⟨pb, 2, none⟩ (.int .i64 Z)) := stW_below HNpb.out.ge [.int .i64 P, .int .i64 Q, .int .i64 Z] y2 0 hT2
          obtain ⟨u_0, u_1, u_2⟩ := b3 HNpb.out
          have u_f := HNpb.out.fz
          go_simp
          go_wp2_with fail
          refine hK.out _ _ (HS19.out _ hTs) (fun hHeld => ?_)
          clear hK K
          try simp only [Act.put, sA, sB, sC]
          clear u_f u_0 u_1 u_2
          clear HNpb
          generalize hs2 : (((y2.setCell ⟨pb, 0, none⟩ (.int .i64 P)).setCell ⟨pb, 1, none⟩ (.int .i64 Q)).setCell ⟨pb, 2, none⟩ (.int .i64 Z)) = y3 at *
          clear hs2
          have hT3 := hTs
          clear hTs
          have HNpb := HBs
          clear HBs
          refine wpAnyH_done (by kernel_rfl) ?_ _
          go_wp2_with fail
          go_meet
          exact ⟨pb, rfl, HNpb.out, hT3⟩
      case rest =>
      obtain ⟨pb, rfl, hPB, hWc⟩ := hcut
      have HPB := Lib.hid hPB
      clear hPB
      replace HU := Lib.hid (HU.out.below hWc)
      have hW3 : Below wr.heap.size wr wc := hW2.trans (hWc.mono hW2.size)
      have hnp : nb < pb := by have := HPB.out.ge; omega
      clear hWc hW2 hT0 hT1 hT2 w2z
      rcases ST.out with ⟨q, hq, hk, hf, hc0, he⟩ | ⟨p, q, hp, hq, hne, hk, hf, ht, hc0, hm0, hd0, X2, Y2, Z2, hs, he⟩ | ⟨p, hp, hk, hf, hc0, hm0, X2, Y2, Z2, hs, he⟩
      · skip
        obtain rfl : iT = q := hiT.out.symm.trans hf
        have f0 := (HF.out _ hW3).1
        rw [hk] at f0
        have HE := Lib.hid he
        clear ST he hf hk
        have qn : (q : Int) < (n : Int) := by have := HK.out; omega
        have qn0 : ¬ (q : Int) < 0 := by omega
        have hqH : q < H.length := hq
        obtain ⟨a, ha⟩ : ∃ z, Hid (H[q].a = z) := ⟨_, Lib.hid rfl⟩
        obtain ⟨b, hb⟩ : ∃ z, Hid (H[q].b = z) := ⟨_, Lib.hid rfl⟩
        obtain ⟨c, hc⟩ : ∃ z, Hid (H[q].c = z) := ⟨_, Lib.hid rfl⟩
        rw [ha.out, hb.out, hc.out] at hc0
        obtain ⟨ca, cb, cc0, cs⟩ := conB_iff.1 hc0
        obtain ⟨a9, h9a⟩ : ∃ z, a + P = z := ⟨_, rfl⟩
        obtain ⟨b9, h9b⟩ : ∃ z, b + Q = z := ⟨_, rfl⟩
        obtain ⟨c9, h9c⟩ : ∃ z, c + Z = z := ⟨_, rfl⟩
        have h9 := Lib.hid (And.intro h9a (And.intro h9b h9c))
        clear h9a h9b h9c
        clear hc0
        go_upto_region 26 with (fail)
        have HS26 : Hid (∀ y, Below wc.heap.size wc y → y.cell? ⟨nb, q * 3, none⟩ = some (.int .i64 a) ∧ y.cell? ⟨nb, q * 3 + 1, none⟩ = some (.int .i64 b) ∧ y.cell? ⟨nb, q * 3 + 2, none⟩ = some (.int .i64 c) ∧ y.cell? ⟨pb, 0, none⟩ = some (.int .i64 P) ∧ y.cell? ⟨pb, 1, none⟩ = some (.int .i64 Q) ∧ y.cell? ⟨pb, 2, none⟩ = some (.int .i64 Z)) := Lib.hid fun y hy => (by
          have h1 := (HU.out.below hy).at' (q := q) hqH
          rw [ha.out, hb.out, hc.out] at h1
          have h2 := b3 (HPB.out.below hy)
          exact ⟨h1.1, h1.2.1, h1.2.2, h2⟩)
        refine wp_region_Z (S := (fun w' => w'.cell? ⟨nb, q * 3, none⟩ = some (.int .i64 a) ∧ w'.cell? ⟨nb, q * 3 + 1, none⟩ = some (.int .i64 b) ∧ w'.cell? ⟨nb, q * 3 + 2, none⟩ = some (.int .i64 c) ∧ w'.cell? ⟨pb, 0, none⟩ = some (.int .i64 P) ∧ w'.cell? ⟨pb, 1, none⟩ = some (.int .i64 Q) ∧ w'.cell? ⟨pb, 2, none⟩ = some (.int .i64 Z))) 9 (by kernel_rfl) (by kernel_rfl) (by kernel_rfl) (HS26.out _ (Below.refl _ _).drew) (fun hHeld => ?_)
        have hT0 : Below wc.heap.size wc wc.drew := (Below.refl _ _).drew
        generalize hdr : wc.drew = z0 at *
        clear hdr
        refine tzA 0 146 rfl ?_
        refine tzA 1 147 rfl ?_
        refine tzA 2 148 rfl ?_
        refine tzA 3 149 rfl ?_
        refine tzA 4 150 rfl ?_
        refine tzA 5 151 rfl ?_
        refine tzA 6 152 rfl ?_
        refine wpAnyZ_call (q := 7) (by kernel_rfl) rfl rfl (fun K hK => ?_)
        go_simp
        refine (refPlus_any a b c P Q Z a9 b9 c9 _ (by omega) (by omega) (by omega) (by omega) (by omega) (by omega) (by omega) (by omega) (by omega) (by omega) (by omega) (by omega) h9).mono ?_
        rintro e z1 ⟨rfl, hbz0⟩
        have hT1 : Below wc.heap.size wc z1 := hT0.trans (hbz0.mono hT0.size)
        clear hbz0
        go_wp2_with fail
        refine hK.out _ _ (HS26.out _ hT1) (fun hHeld => ?_)
        clear hK K
        try simp only [Act.put, sA, sB, sC]
        refine tzA 8 154 rfl ?_
        have hgb := (HU.out.below hT1).put (q := q) hqH (putC H[q] a9 b9 c9)
        have u_f : ∀ j, z1.frozen? ⟨nb, j, none⟩ = false := (HU.out.below hT1).fz
        obtain ⟨u_0, u_1, u_2⟩ := (HU.out.below hT1).at' (q := q) hqH
        refine wpAnyZ_last (by kernel_rfl) rfl (fun K hK => ?_)
        go_simp
        go_wp2_with fail
        refine hK.out _ _ ?_
        clear hK K
        try simp only [Act.put, sA, sB, sC]
        refine ex_world (GbS w nb nb Ac r.H (H.set q (putC H[q] a9 b9 c9))) hgb (fun u2 hu2 => ?_)
        have HU2 := Lib.hid hu2
        clear hu2 hgb u_f u_0 u_1 u_2 HU HPB HS26 hHeld
        go_wp2
        go_roundw
        case rel => exact ⟨j + 1, by omega, by go_num, congrArg (Value.int .i64) HDY2.out.symm, Lib.hid (by rw [hH2.out, HE.out, hP.out, hQ.out, hZ.out, ha.out, hb.out, hc.out, h9.out.1, h9.out.2.1, h9.out.2.2]; exact HU2.out)⟩
        case measure => simp [intOf]; omega
      · skip
        obtain rfl : iF = p := hiF.out.symm.trans hf
        obtain rfl : iT = q := hiT.out.symm.trans ht
        have f0 := (HF.out _ hW3).1
        rw [hk] at f0
        have HE := Lib.hid he
        clear ST he hf ht
        have hpH : p < H.length := hp
        have pn : (p : Int) < (n : Int) := by have := HK.out; omega
        have pn0 : ¬ (p : Int) < 0 := by omega
        obtain ⟨pa, hpa⟩ : ∃ z, Hid (H[p].a = z) := ⟨_, Lib.hid rfl⟩
        obtain ⟨pq, hpq⟩ : ∃ z, Hid (H[p].b = z) := ⟨_, Lib.hid rfl⟩
        obtain ⟨pc, hpc⟩ : ∃ z, Hid (H[p].c = z) := ⟨_, Lib.hid rfl⟩
        rw [hpa.out, hpq.out, hpc.out] at hc0 hm0 hs
        obtain ⟨sh1, ⟨X0, X1, -, -⟩, ⟨Y0, Y1, -, -⟩, Z20, Z21, -, -⟩ := share_ok hc0 (by omega) hm0 hs
        obtain ⟨ca, cb, cc0, cs⟩ := conB_iff.1 hc0
        have hsE : Hid (shaE pa pq pc x.am = 0) := Lib.hid (by unfold shaE; rw [if_pos hc0, rngE_t (inB_true (by omega) hm0)])
        have hsR : Hid (shaR pa pq pc x.am = (X2, Y2, Z2)) := Lib.hid (by unfold shaR; rw [if_pos hsE.out]; exact hs)
        have hcn : Hid (conE X2 Y2 Z2 = 0) := Lib.hid (conE_t (conB_iff.2 ⟨X0, Y0, Z20, by omega⟩))
        clear hc0 hs sh1
        go_upto_region 21 with (fail)
        have HS21 : Hid (∀ y, Below wc.heap.size wc y → y.cell? ⟨nb, p * 3, none⟩ = some (.int .i64 pa) ∧ y.cell? ⟨nb, p * 3 + 1, none⟩ = some (.int .i64 pq) ∧ y.cell? ⟨nb, p * 3 + 2, none⟩ = some (.int .i64 pc) ∧ y.cell? ⟨fb, fo + j * 8 + 6, none⟩ = some (.int .i64 x.am)) := Lib.hid fun y hy => (by
          have h1 := (HU.out.below hy).at' (q := p) hpH
          rw [hpa.out, hpq.out, hpc.out] at h1
          have h2 := HF.out y (hW3.trans (hy.mono hW3.size))
          exact ⟨h1.1, h1.2.1, h1.2.2, h2.2.2.2.2.2.2.1⟩)
        obtain ⟨wd, rfl⟩ : ∃ u, u = wc := ⟨_, rfl⟩
        go_cut [17, 18] from 68 to 154 (fun s17 s18 wx => ∃ sb, s17 = .pointer (some ⟨sb, 0, none⟩) ∧ s18 = .int .i64 0 ∧ BlkF wx wd.heap.size sb [.int .i64 X2, .int .i64 Y2, .int .i64 Z2] ∧ Below wd.heap.size wd wx)
        case first =>
          clear HU HF HLW HL HY HPB
          refine wp_region_held_drew (S := (fun w' => w'.cell? ⟨nb, p * 3, none⟩ = some (.int .i64 pa) ∧ w'.cell? ⟨nb, p * 3 + 1, none⟩ = some (.int .i64 pq) ∧ w'.cell? ⟨nb, p * 3 + 2, none⟩ = some (.int .i64 pc) ∧ w'.cell? ⟨fb, fo + j * 8 + 6, none⟩ = some (.int .i64 x.am))) (by kernel_rfl) (HS21.out _ (Below.refl _ _).drew) (fun hHeld => ?_)
          have hT0 : Below wd.heap.size wd wd.drew := (Below.refl _ _).drew
          generalize hdr : wd.drew = y0 at *
          clear hdr
          refine tkA 0 111 rfl ?_
          refine tkA 1 112 rfl ?_
          refine tkA 2 113 rfl ?_
          refine tkA 3 114 rfl ?_
          refine tkA 4 115 rfl ?_
          refine tkA 5 116 rfl ?_
          refine tkA 6 117 rfl ?_
          refine tkA 7 118 rfl ?_
          refine tkA 8 119 rfl ?_
          refine wpAnyH_ready (rs := [9, 13]) (by kernel_rfl) (by simp) ?_
          refine AllReadyH.cons rfl (fun K hK => ?_) (AllReadyH.cons rfl (fun K hK => ?_) (AllReadyH.nil))
          · skip
            go_simp
            refine (Share_any pa pq pc x.am X2 Y2 Z2 0 _ hsE hsR).mono ?_
            rintro e y1 ⟨rfl, hby0⟩
            have hT1 : Below wd.heap.size wd y1 := hT0.trans (hby0.mono hT0.size)
            clear hby0
            go_wp2_with fail
            refine hK.out _ _ (HS21.out _ hT1) (fun hHeld => ?_)
            clear hK K
            try simp only [Act.put, sA, sB, sC]
            refine tkA 10 110 rfl ?_
            refine tkA 11 121 rfl ?_
            refine tkA 12 122 rfl ?_
            refine rdA 13 rfl (fun K hK => ?_)
            go_simp
            go_wp2_with fail
            refine hK.out _ _ (HS21.out _ (hT1.alloc hT1.size _)) (fun hHeld => ?_)
            clear hK K
            try simp only [Act.put, sA, sB, sC]
            have HNsb := Lib.hid (BlkF.made (B := wd.heap.size) y1 [.int .i64 0, .int .i64 0, .int .i64 0] 49 hT1.size)
            have hby1 : Below y1.heap.size y1 (y1.alloc (.cells #[.int .i64 0, .int .i64 0, .int .i64 0] 49)) := (Below.refl _ _).alloc (Nat.le_refl _) _
            have hnsb : wd.heap.size ≤ y1.heap.size := hT1.size
            have exsb : ∃ x, y1.heap.size = x := ⟨_, rfl⟩
            generalize hq1 : y1.alloc (.cells #[.int .i64 0, .int .i64 0, .int .i64 0] 49) = y2 at *
            have hT2 : Below wd.heap.size wd y2 := hT1.trans (hby1.mono hT1.size)
            obtain ⟨sb, esb⟩ := exsb
            rw [esb] at HNsb hnsb ⊢
            clear hby1 hq1
            refine rdA 14 rfl (fun K hK => ?_)
            have HBs : Hid (BlkF (((y2.setCell ⟨sb, 0, none⟩ (.int .i64 X2)).setCell ⟨sb, 1, none⟩ (.int .i64 Y2)).setCell ⟨sb, 2, none⟩ (.int .i64 Z2)) wd.heap.size sb [.int .i64 X2, .int .i64 Y2, .int .i64 Z2]) := Lib.hid (BlkF.st (vs' := [.int .i64 X2, .int .i64 Y2, .int .i64 Z2]) HNsb.out rfl)
            have hTs : Below wd.heap.size wd (((y2.setCell ⟨sb, 0, none⟩ (.int .i64 X2)).setCell ⟨sb, 1, none⟩ (.int .i64 Y2)).setCell ⟨sb, 2, none⟩ (.int .i64 Z2)) := stW_below HNsb.out.ge [.int .i64 X2, .int .i64 Y2, .int .i64 Z2] y2 0 hT2
            obtain ⟨u_0, u_1, u_2⟩ := b3 HNsb.out
            have u_f := HNsb.out.fz
            go_simp
            go_wp2_with fail
            refine hK.out _ _ (HS21.out _ hTs) (fun hHeld => ?_)
            clear hK K
            try simp only [Act.put, sA, sB, sC]
            clear u_f u_0 u_1 u_2
            clear HNsb
            generalize hs2 : (((y2.setCell ⟨sb, 0, none⟩ (.int .i64 X2)).setCell ⟨sb, 1, none⟩ (.int .i64 Y2)).setCell ⟨sb, 2, none⟩ (.int .i64 Z2)) = y3 at *
            clear hs2
            have hT3 := hTs
            clear hTs
            have HNsb := HBs
            clear HBs
            refine tkA 15 18 rfl ?_
            refine wpAnyH_done (by kernel_rfl) ?_ _
            go_wp2_with fail
            go_meet
            exact ⟨sb, rfl, rfl, HNsb.out, hT3⟩
          · skip
            go_simp
            go_wp2_with fail
            refine hK.out _ _ (HS21.out _ (hT0.alloc hT0.size _)) (fun hHeld => ?_)
            clear hK K
            try simp only [Act.put, sA, sB, sC]
            have HNsb := Lib.hid (BlkF.made (B := wd.heap.size) y0 [.int .i64 0, .int .i64 0, .int .i64 0] 49 hT0.size)
            have hby0 : Below y0.heap.size y0 (y0.alloc (.cells #[.int .i64 0, .int .i64 0, .int .i64 0] 49)) := (Below.refl _ _).alloc (Nat.le_refl _) _
            have hnsb : wd.heap.size ≤ y0.heap.size := hT0.size
            have exsb : ∃ x, y0.heap.size = x := ⟨_, rfl⟩
            generalize hq0 : y0.alloc (.cells #[.int .i64 0, .int .i64 0, .int .i64 0] 49) = y1 at *
            have hT1 : Below wd.heap.size wd y1 := hT0.trans (hby0.mono hT0.size)
            obtain ⟨sb, esb⟩ := exsb
            rw [esb] at HNsb hnsb ⊢
            clear hby0 hq0
            refine rdA 9 rfl (fun K hK => ?_)
            go_simp
            refine (Share_any pa pq pc x.am X2 Y2 Z2 0 _ hsE hsR).mono ?_
            rintro e y2 ⟨rfl, hby1⟩
            have hT2 : Below wd.heap.size wd y2 := hT1.trans (hby1.mono hT1.size)
            replace HNsb := Lib.hid (HNsb.out.below hby1)
            clear hby1
            go_wp2_with fail
            refine hK.out _ _ (HS21.out _ hT2) (fun hHeld => ?_)
            clear hK K
            try simp only [Act.put, sA, sB, sC]
            refine tkA 10 110 rfl ?_
            refine tkA 11 121 rfl ?_
            refine tkA 12 122 rfl ?_
            refine rdA 14 rfl (fun K hK => ?_)
            have HBs : Hid (BlkF (((y2.setCell ⟨sb, 0, none⟩ (.int .i64 X2)).setCell ⟨sb, 1, none⟩ (.int .i64 Y2)).setCell ⟨sb, 2, none⟩ (.int .i64 Z2)) wd.heap.size sb [.int .i64 X2, .int .i64 Y2, .int .i64 Z2]) := Lib.hid (BlkF.st (vs' := [.int .i64 X2, .int .i64 Y2, .int .i64 Z2]) HNsb.out rfl)
            have hTs : Below wd.heap.size wd (((y2.setCell ⟨sb, 0, none⟩ (.int .i64 X2)).setCell ⟨sb, 1, none⟩ (.int .i64 Y2)).setCell ⟨sb, 2, none⟩ (.int .i64 Z2)) := stW_below HNsb.out.ge [.int .i64 X2, .int .i64 Y2, .int .i64 Z2] y2 0 hT2
            obtain ⟨u_0, u_1, u_2⟩ := b3 HNsb.out
            have u_f := HNsb.out.fz
            go_simp
            go_wp2_with fail
            refine hK.out _ _ (HS21.out _ hTs) (fun hHeld => ?_)
            clear hK K
            try simp only [Act.put, sA, sB, sC]
            clear u_f u_0 u_1 u_2
            clear HNsb
            generalize hs2 : (((y2.setCell ⟨sb, 0, none⟩ (.int .i64 X2)).setCell ⟨sb, 1, none⟩ (.int .i64 Y2)).setCell ⟨sb, 2, none⟩ (.int .i64 Z2)) = y3 at *
            clear hs2
            have hT3 := hTs
            clear hTs
            have HNsb := HBs
            clear HBs
            refine tkA 15 18 rfl ?_
            refine wpAnyH_done (by kernel_rfl) ?_ _
            go_wp2_with fail
            go_meet
            exact ⟨sb, rfl, rfl, HNsb.out, hT3⟩
        case rest =>
        obtain ⟨sb, rfl, rfl, hSB, hWc⟩ := hcut
        have HSB := Lib.hid hSB
        clear hSB HS21
        have hps : pb < sb := by have := HSB.out.ge; have := HPB.out.lt; omega
        replace HU := Lib.hid (HU.out.below hWc)
        replace HPB := Lib.hid (HPB.out.below hWc)
        have hW4 : Below wr.heap.size wr wc := hW3.trans (hWc.mono hW3.size)
        clear hWc hW3 f0
        obtain ⟨t0, t1, t2⟩ := b3 HSB.out
        go_wp2_with fail
        refine (refCheckContent_any X2 Y2 Z2 0 _ hcn).mono ?_
        rintro e w5 ⟨rfl, hb5⟩
        replace HU := Lib.hid (HU.out.below hb5)
        replace HPB := Lib.hid (HPB.out.below hb5)
        replace HSB := Lib.hid (HSB.out.below hb5)
        have hW5 : Below wr.heap.size wr w5 := hW4.trans (hb5.mono hW4.size)
        clear hb5 hW4 t0 t1 t2
        go_upto_region 24 with (fail)
        have HS24 : Hid (∀ y, Below w5.heap.size w5 y → y.cell? ⟨nb, p * 3, none⟩ = some (.int .i64 pa) ∧ y.cell? ⟨nb, p * 3 + 1, none⟩ = some (.int .i64 pq) ∧ y.cell? ⟨nb, p * 3 + 2, none⟩ = some (.int .i64 pc) ∧ y.cell? ⟨sb, 0, none⟩ = some (.int .i64 X2) ∧ y.cell? ⟨sb, 1, none⟩ = some (.int .i64 Y2) ∧ y.cell? ⟨sb, 2, none⟩ = some (.int .i64 Z2)) := Lib.hid fun y hy => (by
          have h1 := (HU.out.below hy).at' (q := p) hpH
          rw [hpa.out, hpq.out, hpc.out] at h1
          have h2 := b3 (HSB.out.below hy)
          exact ⟨h1.1, h1.2.1, h1.2.2, h2⟩)
        obtain ⟨m9a, h9a⟩ : ∃ z, pa - X2 = z := ⟨_, rfl⟩
        obtain ⟨m9b, h9b⟩ : ∃ z, pq - Y2 = z := ⟨_, rfl⟩
        obtain ⟨m9c, h9c⟩ : ∃ z, pc - Z2 = z := ⟨_, rfl⟩
        have hm9 := Lib.hid (And.intro h9a (And.intro h9b h9c))
        clear h9a h9b h9c
        refine wp_region_Z (S := (fun w' => w'.cell? ⟨nb, p * 3, none⟩ = some (.int .i64 pa) ∧ w'.cell? ⟨nb, p * 3 + 1, none⟩ = some (.int .i64 pq) ∧ w'.cell? ⟨nb, p * 3 + 2, none⟩ = some (.int .i64 pc) ∧ w'.cell? ⟨sb, 0, none⟩ = some (.int .i64 X2) ∧ w'.cell? ⟨sb, 1, none⟩ = some (.int .i64 Y2) ∧ w'.cell? ⟨sb, 2, none⟩ = some (.int .i64 Z2))) 11 (by kernel_rfl) (by kernel_rfl) (by kernel_rfl) (HS24.out _ (Below.refl _ _).drew) (fun hHeld => ?_)
        have hT0 : Below w5.heap.size w5 w5.drew := (Below.refl _ _).drew
        generalize hdr : w5.drew = z0 at *
        clear hdr
        refine tzA 0 130 rfl ?_
        refine tzA 1 131 rfl ?_
        refine tzA 2 132 rfl ?_
        refine tzA 3 133 rfl ?_
        refine tzA 4 134 rfl ?_
        refine tzA 5 135 rfl ?_
        refine tzA 6 136 rfl ?_
        refine tzA 7 137 rfl ?_
        refine wpAnyZ_call (q := 8) (by kernel_rfl) rfl rfl (fun K hK => ?_)
        go_simp
        refine (refMinus_any pa pq pc X2 Y2 Z2 m9a m9b m9c _ (by omega) (by omega) (by omega) (by omega) (by omega) (by omega) (by omega) (by omega) (by omega) (by omega) (by omega) (by omega) hm9).mono ?_
        rintro e z1 ⟨rfl, hb6⟩
        have hT1 : Below w5.heap.size w5 z1 := hT0.trans (hb6.mono hT0.size)
        clear hb6
        go_wp2_with fail
        refine hK.out _ _ (HS24.out _ hT1) (fun hHeld => ?_)
        clear hK K
        try simp only [Act.put, sA, sB, sC]
        have HU1 := HU.out.below hT1
        have HPB1 := HPB.out.below hT1
        have HSB1 := HSB.out.below hT1
        have hnp2 : nb < pb := by omega
        obtain ⟨u_0, u_1, u_2⟩ := b3 HPB1
        have u_f := HPB1.fz
        have k2 := Lib.hid (HU1.other (i := 0) (l := [.int .i64 X2, .int .i64 Y2, .int .i64 Z2]) hnp)
        have k3 := Lib.hid (BlkF.st (vs' := [.int .i64 X2, .int .i64 Y2, .int .i64 Z2]) HPB1 rfl)
        have k4 := Lib.hid (BlkF.other (i := 0) (l := [.int .i64 X2, .int .i64 Y2, .int .i64 Z2]) HSB1 (show sb ≠ pb by omega))
        have hS2 : (((z1.setCell ⟨pb, 0, none⟩ (.int .i64 X2)).setCell ⟨pb, 1, none⟩ (.int .i64 Y2)).setCell ⟨pb, 2, none⟩ (.int .i64 Z2)).cell? ⟨nb, p * 3, none⟩ = some (.int .i64 pa) ∧ (((z1.setCell ⟨pb, 0, none⟩ (.int .i64 X2)).setCell ⟨pb, 1, none⟩ (.int .i64 Y2)).setCell ⟨pb, 2, none⟩ (.int .i64 Z2)).cell? ⟨nb, p * 3 + 1, none⟩ = some (.int .i64 pq) ∧ (((z1.setCell ⟨pb, 0, none⟩ (.int .i64 X2)).setCell ⟨pb, 1, none⟩ (.int .i64 Y2)).setCell ⟨pb, 2, none⟩ (.int .i64 Z2)).cell? ⟨nb, p * 3 + 2, none⟩ = some (.int .i64 pc) ∧ (((z1.setCell ⟨pb, 0, none⟩ (.int .i64 X2)).setCell ⟨pb, 1, none⟩ (.int .i64 Y2)).setCell ⟨pb, 2, none⟩ (.int .i64 Z2)).cell? ⟨sb, 0, none⟩ = some (.int .i64 X2) ∧ (((z1.setCell ⟨pb, 0, none⟩ (.int .i64 X2)).setCell ⟨pb, 1, none⟩ (.int .i64 Y2)).setCell ⟨pb, 2, none⟩ (.int .i64 Z2)).cell? ⟨sb, 1, none⟩ = some (.int .i64 Y2) ∧ (((z1.setCell ⟨pb, 0, none⟩ (.int .i64 X2)).setCell ⟨pb, 1, none⟩ (.int .i64 Y2)).setCell ⟨pb, 2, none⟩ (.int .i64 Z2)).cell? ⟨sb, 2, none⟩ = some (.int .i64 Z2) := by
          have h1 := k2.out.at' (q := p) hpH
          rw [hpa.out, hpq.out, hpc.out] at h1
          have h2 := b3 k4.out
          exact ⟨h1.1, h1.2.1, h1.2.2, h2⟩
        refine wpAnyZ_call (q := 9) (by kernel_rfl) rfl rfl (fun K hK => ?_)
        go_simp
        go_wp2_with fail
        refine hK.out _ _ hS2 (fun hHeld => ?_)
        clear hK K hS2 u_0 u_1 u_2 u_f
        try simp only [Act.put, sA, sB, sC]
        generalize hq2 : (((z1.setCell ⟨pb, 0, none⟩ (.int .i64 X2)).setCell ⟨pb, 1, none⟩ (.int .i64 Y2)).setCell ⟨pb, 2, none⟩ (.int .i64 Z2)) = z2 at hHeld ⊢
        have K2 : Hid (GbS w nb nb Ac r.H H z2) := Lib.hid (by rw [← hq2]; exact k2.out)
        have K3 : Hid (BlkF z2 v2.heap.size pb [.int .i64 X2, .int .i64 Y2, .int .i64 Z2]) := Lib.hid (by rw [← hq2]; exact k3.out)
        clear k2 k3 k4 hq2 HU1 HPB1 HSB1 HU HPB HSB HS24 hT0 hT1
        refine tzA 10 139 rfl ?_
        have hgb := K2.out.put (q := p) hpH (putC H[p] m9a m9b m9c)
        have u_f : ∀ j, z2.frozen? ⟨nb, j, none⟩ = false := K2.out.fz
        obtain ⟨u_0, u_1, u_2⟩ := K2.out.at' (q := p) hpH
        have k5 := BlkF.other (i := p * 3) (l := ctC (putC H[p] m9a m9b m9c)) K3.out (show pb ≠ nb by omega)
        refine wpAnyZ_last (by kernel_rfl) rfl (fun K hK => ?_)
        go_simp
        go_wp2_with fail
        refine hK.out _ _ ?_
        clear hK K
        try simp only [Act.put, sA, sB, sC]
        refine ex_world (fun u => GbS w nb nb Ac r.H (H.set p (putC H[p] m9a m9b m9c)) u ∧ BlkF u v2.heap.size pb [.int .i64 X2, .int .i64 Y2, .int .i64 Z2]) ⟨hgb, k5⟩ (fun u2 hu2 => ?_)
        have HU2 := Lib.hid hu2.1
        have HPB := Lib.hid hu2.2
        clear hu2 hgb k5 u_f u_0 u_1 u_2 K2 K3 hHeld
        have f0 : u2.cell? ⟨fb, fo + j * 8, none⟩ = some (.int .i64 1) := by
          rcases HY.out u2 HU2.out.be with h | ⟨b, o, e, _, hR⟩
          · have := HJ.out; rw [h] at this; simp at this
          · cases e
            have := (fl_at hR HJ.out).1
            rw [hx.out, hk] at this
            exact this
        have qn : (q : Int) < (n : Int) := by have := HK.out; omega
        have qn0 : ¬ (q : Int) < 0 := by omega
        obtain ⟨H1, hH1⟩ : ∃ z, Hid (H.set p (putC H[p] m9a m9b m9c) = z) := ⟨_, Lib.hid rfl⟩
        have hqH : q < H1.length := by rw [← hH1.out]; simpa using hq
        have HU := HU2
        clear HU2
        rw [hH1.out] at HU
        have hg : H1[q] = H[q] := by simp only [← hH1.out, List.getElem_set, if_neg hne]
        obtain ⟨a, ha⟩ : ∃ z, Hid (H1[q].a = z) := ⟨_, Lib.hid rfl⟩
        obtain ⟨b, hb⟩ : ∃ z, Hid (H1[q].b = z) := ⟨_, Lib.hid rfl⟩
        obtain ⟨c, hc⟩ : ∃ z, Hid (H1[q].c = z) := ⟨_, Lib.hid rfl⟩
        rw [← hg, ha.out, hb.out, hc.out] at hd0
        obtain ⟨da, db, dc0, ds⟩ := conB_iff.1 hd0
        obtain ⟨a9, h9a⟩ : ∃ z, a + X2 = z := ⟨_, rfl⟩
        obtain ⟨b9, h9b⟩ : ∃ z, b + Y2 = z := ⟨_, rfl⟩
        obtain ⟨c9, h9c⟩ : ∃ z, c + Z2 = z := ⟨_, rfl⟩
        have h9 := Lib.hid (And.intro h9a (And.intro h9b h9c))
        clear h9a h9b h9c
        clear hd0 hk
        go_upto_region 26 with (fail)
        have HS26 : Hid (∀ y, Below u2.heap.size u2 y → y.cell? ⟨nb, q * 3, none⟩ = some (.int .i64 a) ∧ y.cell? ⟨nb, q * 3 + 1, none⟩ = some (.int .i64 b) ∧ y.cell? ⟨nb, q * 3 + 2, none⟩ = some (.int .i64 c) ∧ y.cell? ⟨pb, 0, none⟩ = some (.int .i64 X2) ∧ y.cell? ⟨pb, 1, none⟩ = some (.int .i64 Y2) ∧ y.cell? ⟨pb, 2, none⟩ = some (.int .i64 Z2)) := Lib.hid fun y hy => (by
          have h1 := (HU.out.below hy).at' (q := q) hqH
          rw [ha.out, hb.out, hc.out] at h1
          have h2 := b3 (HPB.out.below hy)
          exact ⟨h1.1, h1.2.1, h1.2.2, h2⟩)
        refine wp_region_Z (S := (fun w' => w'.cell? ⟨nb, q * 3, none⟩ = some (.int .i64 a) ∧ w'.cell? ⟨nb, q * 3 + 1, none⟩ = some (.int .i64 b) ∧ w'.cell? ⟨nb, q * 3 + 2, none⟩ = some (.int .i64 c) ∧ w'.cell? ⟨pb, 0, none⟩ = some (.int .i64 X2) ∧ w'.cell? ⟨pb, 1, none⟩ = some (.int .i64 Y2) ∧ w'.cell? ⟨pb, 2, none⟩ = some (.int .i64 Z2))) 9 (by kernel_rfl) (by kernel_rfl) (by kernel_rfl) (HS26.out _ (Below.refl _ _).drew) (fun hHeld => ?_)
        have hT0 : Below u2.heap.size u2 u2.drew := (Below.refl _ _).drew
        generalize hdr : u2.drew = z0 at *
        clear hdr
        refine tzA 0 146 rfl ?_
        refine tzA 1 147 rfl ?_
        refine tzA 2 148 rfl ?_
        refine tzA 3 149 rfl ?_
        refine tzA 4 150 rfl ?_
        refine tzA 5 151 rfl ?_
        refine tzA 6 152 rfl ?_
        refine wpAnyZ_call (q := 7) (by kernel_rfl) rfl rfl (fun K hK => ?_)
        go_simp
        refine (refPlus_any a b c X2 Y2 Z2 a9 b9 c9 _ (by omega) (by omega) (by omega) (by omega) (by omega) (by omega) (by omega) (by omega) (by omega) (by omega) (by omega) (by omega) h9).mono ?_
        rintro e z1 ⟨rfl, hbz0⟩
        have hT1 : Below u2.heap.size u2 z1 := hT0.trans (hbz0.mono hT0.size)
        clear hbz0
        go_wp2_with fail
        refine hK.out _ _ (HS26.out _ hT1) (fun hHeld => ?_)
        clear hK K
        try simp only [Act.put, sA, sB, sC]
        refine tzA 8 154 rfl ?_
        have hgb := (HU.out.below hT1).put (q := q) hqH (putC H1[q] a9 b9 c9)
        have u_f : ∀ j, z1.frozen? ⟨nb, j, none⟩ = false := (HU.out.below hT1).fz
        obtain ⟨u_0, u_1, u_2⟩ := (HU.out.below hT1).at' (q := q) hqH
        refine wpAnyZ_last (by kernel_rfl) rfl (fun K hK => ?_)
        go_simp
        go_wp2_with fail
        refine hK.out _ _ ?_
        clear hK K
        try simp only [Act.put, sA, sB, sC]
        refine ex_world (GbS w nb nb Ac r.H (H1.set q (putC H1[q] a9 b9 c9))) hgb (fun u2 hu2 => ?_)
        have HU2 := Lib.hid hu2
        clear hu2 hgb u_f u_0 u_1 u_2 HU HPB HS26 hHeld
        go_wp2
        go_roundw
        case rel => exact ⟨j + 1, by omega, by go_num, congrArg (Value.int .i64) HDY2.out.symm, Lib.hid (by rw [hH2.out, HE.out, hpa.out, hpq.out, hpc.out, hm9.out.1, hm9.out.2.1, hm9.out.2.2, hH1.out, ← hg, ha.out, hb.out, hc.out, h9.out.1, h9.out.2.1, h9.out.2.2]; exact HU2.out)⟩
        case measure => simp [intOf]; omega
      · skip
        obtain rfl : iF = p := hiF.out.symm.trans hf
        have f0 := (HF.out _ hW3).1
        rw [hk] at f0
        have HE := Lib.hid he
        clear ST he hf
        have hpH : p < H.length := hp
        have pn : (p : Int) < (n : Int) := by have := HK.out; omega
        have pn0 : ¬ (p : Int) < 0 := by omega
        obtain ⟨pa, hpa⟩ : ∃ z, Hid (H[p].a = z) := ⟨_, Lib.hid rfl⟩
        obtain ⟨pq, hpq⟩ : ∃ z, Hid (H[p].b = z) := ⟨_, Lib.hid rfl⟩
        obtain ⟨pc, hpc⟩ : ∃ z, Hid (H[p].c = z) := ⟨_, Lib.hid rfl⟩
        rw [hpa.out, hpq.out, hpc.out] at hc0 hm0 hs
        obtain ⟨sh1, ⟨X0, X1, -, -⟩, ⟨Y0, Y1, -, -⟩, Z20, Z21, -, -⟩ := share_ok hc0 (by omega) hm0 hs
        obtain ⟨ca, cb, cc0, cs⟩ := conB_iff.1 hc0
        have hsE : Hid (shaE pa pq pc x.am = 0) := Lib.hid (by unfold shaE; rw [if_pos hc0, rngE_t (inB_true (by omega) hm0)])
        have hsR : Hid (shaR pa pq pc x.am = (X2, Y2, Z2)) := Lib.hid (by unfold shaR; rw [if_pos hsE.out]; exact hs)
        have hcn : Hid (conE X2 Y2 Z2 = 0) := Lib.hid (conE_t (conB_iff.2 ⟨X0, Y0, Z20, by omega⟩))
        clear hc0 hs sh1
        go_upto_region 21 with (fail)
        have HS21 : Hid (∀ y, Below wc.heap.size wc y → y.cell? ⟨nb, p * 3, none⟩ = some (.int .i64 pa) ∧ y.cell? ⟨nb, p * 3 + 1, none⟩ = some (.int .i64 pq) ∧ y.cell? ⟨nb, p * 3 + 2, none⟩ = some (.int .i64 pc) ∧ y.cell? ⟨fb, fo + j * 8 + 6, none⟩ = some (.int .i64 x.am)) := Lib.hid fun y hy => (by
          have h1 := (HU.out.below hy).at' (q := p) hpH
          rw [hpa.out, hpq.out, hpc.out] at h1
          have h2 := HF.out y (hW3.trans (hy.mono hW3.size))
          exact ⟨h1.1, h1.2.1, h1.2.2, h2.2.2.2.2.2.2.1⟩)
        obtain ⟨wd, rfl⟩ : ∃ u, u = wc := ⟨_, rfl⟩
        go_cut [17, 18] from 68 to 154 (fun s17 s18 wx => ∃ sb, s17 = .pointer (some ⟨sb, 0, none⟩) ∧ s18 = .int .i64 0 ∧ BlkF wx wd.heap.size sb [.int .i64 X2, .int .i64 Y2, .int .i64 Z2] ∧ Below wd.heap.size wd wx)
        case first =>
          clear HU HF HLW HL HY HPB
          refine wp_region_held_drew (S := (fun w' => w'.cell? ⟨nb, p * 3, none⟩ = some (.int .i64 pa) ∧ w'.cell? ⟨nb, p * 3 + 1, none⟩ = some (.int .i64 pq) ∧ w'.cell? ⟨nb, p * 3 + 2, none⟩ = some (.int .i64 pc) ∧ w'.cell? ⟨fb, fo + j * 8 + 6, none⟩ = some (.int .i64 x.am))) (by kernel_rfl) (HS21.out _ (Below.refl _ _).drew) (fun hHeld => ?_)
          have hT0 : Below wd.heap.size wd wd.drew := (Below.refl _ _).drew
          generalize hdr : wd.drew = y0 at *
          clear hdr
          refine tkA 0 111 rfl ?_
          refine tkA 1 112 rfl ?_
          refine tkA 2 113 rfl ?_
          refine tkA 3 114 rfl ?_
          refine tkA 4 115 rfl ?_
          refine tkA 5 116 rfl ?_
          refine tkA 6 117 rfl ?_
          refine tkA 7 118 rfl ?_
          refine tkA 8 119 rfl ?_
          refine wpAnyH_ready (rs := [9, 13]) (by kernel_rfl) (by simp) ?_
          refine AllReadyH.cons rfl (fun K hK => ?_) (AllReadyH.cons rfl (fun K hK => ?_) (AllReadyH.nil))
          · skip
            go_simp
            refine (Share_any pa pq pc x.am X2 Y2 Z2 0 _ hsE hsR).mono ?_
            rintro e y1 ⟨rfl, hby0⟩
            have hT1 : Below wd.heap.size wd y1 := hT0.trans (hby0.mono hT0.size)
            clear hby0
            go_wp2_with fail
            refine hK.out _ _ (HS21.out _ hT1) (fun hHeld => ?_)
            clear hK K
            try simp only [Act.put, sA, sB, sC]
            refine tkA 10 110 rfl ?_
            refine tkA 11 121 rfl ?_
            refine tkA 12 122 rfl ?_
            refine rdA 13 rfl (fun K hK => ?_)
            go_simp
            go_wp2_with fail
            refine hK.out _ _ (HS21.out _ (hT1.alloc hT1.size _)) (fun hHeld => ?_)
            clear hK K
            try simp only [Act.put, sA, sB, sC]
            have HNsb := Lib.hid (BlkF.made (B := wd.heap.size) y1 [.int .i64 0, .int .i64 0, .int .i64 0] 49 hT1.size)
            have hby1 : Below y1.heap.size y1 (y1.alloc (.cells #[.int .i64 0, .int .i64 0, .int .i64 0] 49)) := (Below.refl _ _).alloc (Nat.le_refl _) _
            have hnsb : wd.heap.size ≤ y1.heap.size := hT1.size
            have exsb : ∃ x, y1.heap.size = x := ⟨_, rfl⟩
            generalize hq1 : y1.alloc (.cells #[.int .i64 0, .int .i64 0, .int .i64 0] 49) = y2 at *
            have hT2 : Below wd.heap.size wd y2 := hT1.trans (hby1.mono hT1.size)
            obtain ⟨sb, esb⟩ := exsb
            rw [esb] at HNsb hnsb ⊢
            clear hby1 hq1
            refine rdA 14 rfl (fun K hK => ?_)
            have HBs : Hid (BlkF (((y2.setCell ⟨sb, 0, none⟩ (.int .i64 X2)).setCell ⟨sb, 1, none⟩ (.int .i64 Y2)).setCell ⟨sb, 2, none⟩ (.int .i64 Z2)) wd.heap.size sb [.int .i64 X2, .int .i64 Y2, .int .i64 Z2]) := Lib.hid (BlkF.st (vs' := [.int .i64 X2, .int .i64 Y2, .int .i64 Z2]) HNsb.out rfl)
            have hTs : Below wd.heap.size wd (((y2.setCell ⟨sb, 0, none⟩ (.int .i64 X2)).setCell ⟨sb, 1, none⟩ (.int .i64 Y2)).setCell ⟨sb, 2, none⟩ (.int .i64 Z2)) := stW_below HNsb.out.ge [.int .i64 X2, .int .i64 Y2, .int .i64 Z2] y2 0 hT2
            obtain ⟨u_0, u_1, u_2⟩ := b3 HNsb.out
            have u_f := HNsb.out.fz
            go_simp
            go_wp2_with fail
            refine hK.out _ _ (HS21.out _ hTs) (fun hHeld => ?_)
            clear hK K
            try simp only [Act.put, sA, sB, sC]
            clear u_f u_0 u_1 u_2
            clear HNsb
            generalize hs2 : (((y2.setCell ⟨sb, 0, none⟩ (.int .i64 X2)).setCell ⟨sb, 1, none⟩ (.int .i64 Y2)).setCell ⟨sb, 2, none⟩ (.int .i64 Z2)) = y3 at *
            clear hs2
            have hT3 := hTs
            clear hTs
            have HNsb := HBs
            clear HBs
            refine tkA 15 18 rfl ?_
            refine wpAnyH_done (by kernel_rfl) ?_ _
            go_wp2_with fail
            go_meet
            exact ⟨sb, rfl, rfl, HNsb.out, hT3⟩
          · skip
            go_simp
            go_wp2_with fail
            refine hK.out _ _ (HS21.out _ (hT0.alloc hT0.size _)) (fun hHeld => ?_)
            clear hK K
            try simp only [Act.put, sA, sB, sC]
            have HNsb := Lib.hid (BlkF.made (B := wd.heap.size) y0 [.int .i64 0, .int .i64 0, .int .i64 0] 49 hT0.size)
            have hby0 : Below y0.heap.size y0 (y0.alloc (.cells #[.int .i64 0, .int .i64 0, .int .i64 0] 49)) := (Below.refl _ _).alloc (Nat.le_refl _) _
            have hnsb : wd.heap.size ≤ y0.heap.size := hT0.size
            have exsb : ∃ x, y0.heap.size = x := ⟨_, rfl⟩
            generalize hq0 : y0.alloc (.cells #[.int .i64 0, .int .i64 0, .int .i64 0] 49) = y1 at *
            have hT1 : Below wd.heap.size wd y1 := hT0.trans (hby0.mono hT0.size)
            obtain ⟨sb, esb⟩ := exsb
            rw [esb] at HNsb hnsb ⊢
            clear hby0 hq0
            refine rdA 9 rfl (fun K hK => ?_)
            go_simp
            refine (Share_any pa pq pc x.am X2 Y2 Z2 0 _ hsE hsR).mono ?_
            rintro e y2 ⟨rfl, hby1⟩
            have hT2 : Below wd.heap.size wd y2 := hT1.trans (hby1.mono hT1.size)
            replace HNsb := Lib.hid (HNsb.out.below hby1)
            clear hby1
            go_wp2_with fail
            refine hK.out _ _ (HS21.out _ hT2) (fun hHeld => ?_)
            clear hK K
            try simp only [Act.put, sA, sB, sC]
            refine tkA 10 110 rfl ?_
            refine tkA 11 121 rfl ?_
            refine tkA 12 122 rfl ?_
            refine rdA 14 rfl (fun K hK => ?_)
            have HBs : Hid (BlkF (((y2.setCell ⟨sb, 0, none⟩ (.int .i64 X2)).setCell ⟨sb, 1, none⟩ (.int .i64 Y2)).setCell ⟨sb, 2, none⟩ (.int .i64 Z2)) wd.heap.size sb [.int .i64 X2, .int .i64 Y2, .int .i64 Z2]) := Lib.hid (BlkF.st (vs' := [.int .i64 X2, .int .i64 Y2, .int .i64 Z2]) HNsb.out rfl)
            have hTs : Below wd.heap.size wd (((y2.setCell ⟨sb, 0, none⟩ (.int .i64 X2)).setCell ⟨sb, 1, none⟩ (.int .i64 Y2)).setCell ⟨sb, 2, none⟩ (.int .i64 Z2)) := stW_below HNsb.out.ge [.int .i64 X2, .int .i64 Y2, .int .i64 Z2] y2 0 hT2
            obtain ⟨u_0, u_1, u_2⟩ := b3 HNsb.out
            have u_f := HNsb.out.fz
            go_simp
            go_wp2_with fail
            refine hK.out _ _ (HS21.out _ hTs) (fun hHeld => ?_)
            clear hK K
            try simp only [Act.put, sA, sB, sC]
            clear u_f u_0 u_1 u_2
            clear HNsb
            generalize hs2 : (((y2.setCell ⟨sb, 0, none⟩ (.int .i64 X2)).setCell ⟨sb, 1, none⟩ (.int .i64 Y2)).setCell ⟨sb, 2, none⟩ (.int .i64 Z2)) = y3 at *
            clear hs2
            have hT3 := hTs
            clear hTs
            have HNsb := HBs
            clear HBs
            refine tkA 15 18 rfl ?_
            refine wpAnyH_done (by kernel_rfl) ?_ _
            go_wp2_with fail
            go_meet
            exact ⟨sb, rfl, rfl, HNsb.out, hT3⟩
        case rest =>
        obtain ⟨sb, rfl, rfl, hSB, hWc⟩ := hcut
        have HSB := Lib.hid hSB
        clear hSB HS21
        have hps : pb < sb := by have := HSB.out.ge; have := HPB.out.lt; omega
        replace HU := Lib.hid (HU.out.below hWc)
        replace HPB := Lib.hid (HPB.out.below hWc)
        have hW4 : Below wr.heap.size wr wc := hW3.trans (hWc.mono hW3.size)
        clear hWc hW3 f0
        obtain ⟨t0, t1, t2⟩ := b3 HSB.out
        go_wp2_with fail
        refine (refCheckContent_any X2 Y2 Z2 0 _ hcn).mono ?_
        rintro e w5 ⟨rfl, hb5⟩
        replace HU := Lib.hid (HU.out.below hb5)
        replace HPB := Lib.hid (HPB.out.below hb5)
        replace HSB := Lib.hid (HSB.out.below hb5)
        have hW5 : Below wr.heap.size wr w5 := hW4.trans (hb5.mono hW4.size)
        clear hb5 hW4 t0 t1 t2
        go_upto_region 24 with (fail)
        have HS24 : Hid (∀ y, Below w5.heap.size w5 y → y.cell? ⟨nb, p * 3, none⟩ = some (.int .i64 pa) ∧ y.cell? ⟨nb, p * 3 + 1, none⟩ = some (.int .i64 pq) ∧ y.cell? ⟨nb, p * 3 + 2, none⟩ = some (.int .i64 pc) ∧ y.cell? ⟨sb, 0, none⟩ = some (.int .i64 X2) ∧ y.cell? ⟨sb, 1, none⟩ = some (.int .i64 Y2) ∧ y.cell? ⟨sb, 2, none⟩ = some (.int .i64 Z2)) := Lib.hid fun y hy => (by
          have h1 := (HU.out.below hy).at' (q := p) hpH
          rw [hpa.out, hpq.out, hpc.out] at h1
          have h2 := b3 (HSB.out.below hy)
          exact ⟨h1.1, h1.2.1, h1.2.2, h2⟩)
        obtain ⟨m9a, h9a⟩ : ∃ z, pa - X2 = z := ⟨_, rfl⟩
        obtain ⟨m9b, h9b⟩ : ∃ z, pq - Y2 = z := ⟨_, rfl⟩
        obtain ⟨m9c, h9c⟩ : ∃ z, pc - Z2 = z := ⟨_, rfl⟩
        have hm9 := Lib.hid (And.intro h9a (And.intro h9b h9c))
        clear h9a h9b h9c
        refine wp_region_Z (S := (fun w' => w'.cell? ⟨nb, p * 3, none⟩ = some (.int .i64 pa) ∧ w'.cell? ⟨nb, p * 3 + 1, none⟩ = some (.int .i64 pq) ∧ w'.cell? ⟨nb, p * 3 + 2, none⟩ = some (.int .i64 pc) ∧ w'.cell? ⟨sb, 0, none⟩ = some (.int .i64 X2) ∧ w'.cell? ⟨sb, 1, none⟩ = some (.int .i64 Y2) ∧ w'.cell? ⟨sb, 2, none⟩ = some (.int .i64 Z2))) 11 (by kernel_rfl) (by kernel_rfl) (by kernel_rfl) (HS24.out _ (Below.refl _ _).drew) (fun hHeld => ?_)
        have hT0 : Below w5.heap.size w5 w5.drew := (Below.refl _ _).drew
        generalize hdr : w5.drew = z0 at *
        clear hdr
        refine tzA 0 130 rfl ?_
        refine tzA 1 131 rfl ?_
        refine tzA 2 132 rfl ?_
        refine tzA 3 133 rfl ?_
        refine tzA 4 134 rfl ?_
        refine tzA 5 135 rfl ?_
        refine tzA 6 136 rfl ?_
        refine tzA 7 137 rfl ?_
        refine wpAnyZ_call (q := 8) (by kernel_rfl) rfl rfl (fun K hK => ?_)
        go_simp
        refine (refMinus_any pa pq pc X2 Y2 Z2 m9a m9b m9c _ (by omega) (by omega) (by omega) (by omega) (by omega) (by omega) (by omega) (by omega) (by omega) (by omega) (by omega) (by omega) hm9).mono ?_
        rintro e z1 ⟨rfl, hb6⟩
        have hT1 : Below w5.heap.size w5 z1 := hT0.trans (hb6.mono hT0.size)
        clear hb6
        go_wp2_with fail
        refine hK.out _ _ (HS24.out _ hT1) (fun hHeld => ?_)
        clear hK K
        try simp only [Act.put, sA, sB, sC]
        have HU1 := HU.out.below hT1
        have HPB1 := HPB.out.below hT1
        have HSB1 := HSB.out.below hT1
        have hnp2 : nb < pb := by omega
        obtain ⟨u_0, u_1, u_2⟩ := b3 HPB1
        have u_f := HPB1.fz
        have k2 := Lib.hid (HU1.other (i := 0) (l := [.int .i64 X2, .int .i64 Y2, .int .i64 Z2]) hnp)
        have k3 := Lib.hid (BlkF.st (vs' := [.int .i64 X2, .int .i64 Y2, .int .i64 Z2]) HPB1 rfl)
        have k4 := Lib.hid (BlkF.other (i := 0) (l := [.int .i64 X2, .int .i64 Y2, .int .i64 Z2]) HSB1 (show sb ≠ pb by omega))
        have hS2 : (((z1.setCell ⟨pb, 0, none⟩ (.int .i64 X2)).setCell ⟨pb, 1, none⟩ (.int .i64 Y2)).setCell ⟨pb, 2, none⟩ (.int .i64 Z2)).cell? ⟨nb, p * 3, none⟩ = some (.int .i64 pa) ∧ (((z1.setCell ⟨pb, 0, none⟩ (.int .i64 X2)).setCell ⟨pb, 1, none⟩ (.int .i64 Y2)).setCell ⟨pb, 2, none⟩ (.int .i64 Z2)).cell? ⟨nb, p * 3 + 1, none⟩ = some (.int .i64 pq) ∧ (((z1.setCell ⟨pb, 0, none⟩ (.int .i64 X2)).setCell ⟨pb, 1, none⟩ (.int .i64 Y2)).setCell ⟨pb, 2, none⟩ (.int .i64 Z2)).cell? ⟨nb, p * 3 + 2, none⟩ = some (.int .i64 pc) ∧ (((z1.setCell ⟨pb, 0, none⟩ (.int .i64 X2)).setCell ⟨pb, 1, none⟩ (.int .i64 Y2)).setCell ⟨pb, 2, none⟩ (.int .i64 Z2)).cell? ⟨sb, 0, none⟩ = some (.int .i64 X2) ∧ (((z1.setCell ⟨pb, 0, none⟩ (.int .i64 X2)).setCell ⟨pb, 1, none⟩ (.int .i64 Y2)).setCell ⟨pb, 2, none⟩ (.int .i64 Z2)).cell? ⟨sb, 1, none⟩ = some (.int .i64 Y2) ∧ (((z1.setCell ⟨pb, 0, none⟩ (.int .i64 X2)).setCell ⟨pb, 1, none⟩ (.int .i64 Y2)).setCell ⟨pb, 2, none⟩ (.int .i64 Z2)).cell? ⟨sb, 2, none⟩ = some (.int .i64 Z2) := by
          have h1 := k2.out.at' (q := p) hpH
          rw [hpa.out, hpq.out, hpc.out] at h1
          have h2 := b3 k4.out
          exact ⟨h1.1, h1.2.1, h1.2.2, h2⟩
        refine wpAnyZ_call (q := 9) (by kernel_rfl) rfl rfl (fun K hK => ?_)
        go_simp
        go_wp2_with fail
        refine hK.out _ _ hS2 (fun hHeld => ?_)
        clear hK K hS2 u_0 u_1 u_2 u_f
        try simp only [Act.put, sA, sB, sC]
        generalize hq2 : (((z1.setCell ⟨pb, 0, none⟩ (.int .i64 X2)).setCell ⟨pb, 1, none⟩ (.int .i64 Y2)).setCell ⟨pb, 2, none⟩ (.int .i64 Z2)) = z2 at hHeld ⊢
        have K2 : Hid (GbS w nb nb Ac r.H H z2) := Lib.hid (by rw [← hq2]; exact k2.out)
        have K3 : Hid (BlkF z2 v2.heap.size pb [.int .i64 X2, .int .i64 Y2, .int .i64 Z2]) := Lib.hid (by rw [← hq2]; exact k3.out)
        clear k2 k3 k4 hq2 HU1 HPB1 HSB1 HU HPB HSB HS24 hT0 hT1
        refine tzA 10 139 rfl ?_
        have hgb := K2.out.put (q := p) hpH (putC H[p] m9a m9b m9c)
        have u_f : ∀ j, z2.frozen? ⟨nb, j, none⟩ = false := K2.out.fz
        obtain ⟨u_0, u_1, u_2⟩ := K2.out.at' (q := p) hpH
        have k5 := BlkF.other (i := p * 3) (l := ctC (putC H[p] m9a m9b m9c)) K3.out (show pb ≠ nb by omega)
        refine wpAnyZ_last (by kernel_rfl) rfl (fun K hK => ?_)
        go_simp
        go_wp2_with fail
        refine hK.out _ _ ?_
        clear hK K
        try simp only [Act.put, sA, sB, sC]
        refine ex_world (fun u => GbS w nb nb Ac r.H (H.set p (putC H[p] m9a m9b m9c)) u ∧ BlkF u v2.heap.size pb [.int .i64 X2, .int .i64 Y2, .int .i64 Z2]) ⟨hgb, k5⟩ (fun u2 hu2 => ?_)
        have HU2 := Lib.hid hu2.1
        have HPB := Lib.hid hu2.2
        clear hu2 hgb k5 u_f u_0 u_1 u_2 K2 K3 hHeld
        have f0 : u2.cell? ⟨fb, fo + j * 8, none⟩ = some (.int .i64 2) := by
          rcases HY.out u2 HU2.out.be with h | ⟨b, o, e, _, hR⟩
          · have := HJ.out; rw [h] at this; simp at this
          · cases e
            have := (fl_at hR HJ.out).1
            rw [hx.out, hk] at this
            exact this
        go_wp2
        go_roundw
        case rel => exact ⟨j + 1, by omega, by go_num, congrArg (Value.int .i64) HDY2.out.symm, Lib.hid (by rw [hH2.out, HE.out, hpa.out, hpq.out, hpc.out, hm9.out.1, hm9.out.2.1, hm9.out.2.2]; exact HU2.out)⟩
        case measure => simp [intOf]; omega
    · skip
      obtain ⟨wo, rfl⟩ : ∃ u, u = wr := ⟨_, rfl⟩
      have jn : ¬ (j : Int) < (kc : Int) := by omega
      have hjk : kc = j := by omega
      subst hjk
      have hYt : Y.take kc = Y := by rw [hkY.out, List.take_length]
      rw [hYt, hr.out] at HU ⊢
      clear hYt jn hj hjm
      have HW := HU.out.be
      go_upto_region 27 with (fail)
      go_cut [19] from 29 (fun s19 wx => ∃ A2 c2, s19 = .slice A2 kc c2 ∧ (A2 = none → c2 = 0) ∧ SlRows flV 8 wx A2 Y ∧ Below wo.heap.size wo wx)
      case first =>
        obtain ⟨i0, hi, hz0', hz1', hz2'⟩ := info_partsG infoFl
        have HI := Lib.hid hi
        have HZ0 := Lib.hid hz0'
        have HZ1 := Lib.hid hz1'
        have HZ2 := Lib.hid hz2'
        have HO := Lib.hid (World.ownsRow_made (base := wo.heap.size) (e := 38) (size := 8) wo #[] 0 (Nat.le_refl _) (by simp) (by simp))
        have HSRC := Lib.hid (srcG (f := flV) (n := 8) (fun _ => rfl) (by decide) (HY.out _ (HW.trans ((Below.alloc (Below.refl _ wo) (Nat.le_refl _) (.cells #[] 38)).mono HW.size))))
        have HLLA := Lib.hid (rowsV_len (f := flV) (n := 8) (fun _ => rfl) Y)
        rw [← hkY.out] at HLLA
        have CA : Hid (fA = none → kc = 0 ∧ fcap = 0) := Lib.hid fun h => ⟨by have := cF h; omega, cF h⟩
        clear hi hz0' hz1' hz2'
        go_wp2_with (at_builtin; refine wpList_append_slG rfl _ _ 23 rfl wo.heap.size 38 i0 (.agg #[.int .i64 0, .int .i64 0, .string ⟨#[]⟩, .string ⟨#[]⟩, .int .i64 0, .int .i64 0, .int .i64 0, .bool false]) 8 80 Try.underlying23 HI.out HZ0.out HZ1.out HZ2.out rfl (by decide) _ 0 [] rfl HO.out fA kc fcap (rowsV flV Y) rfl CA.out HLLA.out HSRC.out (rows_one flV_one Y) ?e1 ?e2 ?e3 ?_)
        case e1 => unfold maxLen; omega
        case e2 => omega
        case e3 => simp
        intro v1 u1 hown hgrow hblk
        have hb : Below wo.heap.size wo u1 := ((Below.refl wo.heap.size wo).alloc (Nat.le_refl _) _).grown hgrow (by simp) (by intro k hk; simp [Value.ownBlock] at hk; omega)
        (try simp only [Nat.zero_add, List.nil_append] at hown)
        obtain ⟨G, cg, hv, hS, _, hN, _, _⟩ := SlRows_own (f := flV) (n := 8) (L := Y) (fun _ => rfl) (by rw [← hkY.out]; exact hown)
        rw [← hkY.out] at hv
        subst hv
        have HG := Lib.hid hS
        clear hown hgrow hblk hS HO HSRC HLLA
        go_wp2_with fail
        go_meet
        exact ⟨G, cg, rfl, hN, HG.out, hb⟩
      case rest =>
      obtain ⟨A2, c2, rfl, cf2, hS2, hWc⟩ := hcut
      have HS2 := Lib.hid hS2
      replace HU := Lib.hid (HU.out.below hWc)
      clear hS2 hWc HW
      obtain ⟨wp, rfl⟩ : ∃ u, u = wc := ⟨_, rfl⟩
      go_wp2
      go_loopw [19, 20] (fun s i wr => ∃ (k : Nat) (A2 : Option Addr) (na c2 : Nat), k ≤ n ∧ i = .int .i64 k ∧ s = .slice A2 na c2 ∧ Hid (na = (Y ++ vts r.dy (r.H.take k)).length) ∧ Hid (A2 = none → c2 = 0) ∧ Hid (SlRows flV 8 wr A2 (Y ++ vts r.dy (r.H.take k))) ∧ Hid (GbS w nb nb Ac r.H r.H wr)) (fun _ i _ => n - (intOf i).toNat)
      case atStart =>
        have hv0 : Y ++ vts r.dy (r.H.take 0) = Y := by simp [vts]
        exact ⟨0, A2, kc, c2, by omega, rfl, rfl, Lib.hid (by rw [hv0]; exact hkY.out), Lib.hid cf2, Lib.hid (by rw [hv0]; exact HS2.out), HU⟩
      case round =>
        clear HU HS2 cf2 A2 c2
        obtain ⟨k, A2, na, c2, hk, rfl, rfl, hna, cf2, HS2, HU⟩ := hrel
        by_cases hkn : k < n
        · skip
          have kn : (k : Int) < (n : Int) := by omega
          have hkH : k < r.H.length := by have := HLN.out; omega
          have hHne : ¬ r.H = [] := fun h => by rw [h] at hkH; simp at hkH
          obtain ⟨ab, ao, eAc, hab, _⟩ := HU.out.ci.resolve_left hHne
          subst eAc
          obtain ⟨vb, vo, eA, _⟩ : ∃ b o, A = some ⟨b, o, none⟩ ∧ True := by
            rcases HL.out _ HU.out.be with h | ⟨b, o, e, _⟩
            · have := hlen.out; rw [h] at this; simp at this; omega
            · exact ⟨b, o, e, trivial⟩
          subst eA
          obtain ⟨x, hx⟩ : ∃ x, Hid (r.H[k] = x) := ⟨_, Lib.hid rfl⟩
          have gok := (beh_all hDY.out).1.hd x (by rw [hr.out, ← hx.out]; exact List.getElem_mem hkH)
          obtain ⟨_, gc, _⟩ := gok
          have hcB := Lib.hid gc
          have hcn : Hid (conE x.a x.b x.c = 0) := Lib.hid (conE_t gc)
          obtain ⟨S, hS⟩ : ∃ S, Hid (x.a + x.b + x.c = S) := ⟨_, Lib.hid rfl⟩
          obtain ⟨W, hW⟩ : ∃ W, Hid (Y ++ vts r.dy (r.H.take k) = W) := ⟨_, Lib.hid rfl⟩
          have hW1 : Hid (Y ++ vts r.dy (r.H.take (k + 1)) = W ++ (if 0 < S then [vent r.dy x] else [])) := Lib.hid (by
            rw [vts_snoc hkH, hx.out, ← List.append_assoc, hW.out, show hdSum x = S from hS.out])
          have hg0 := gb_all hDY.out hr.out (by have := hkY.out; have := k12.out; omega) k (by omega)
          have hg1 := gb_all hDY.out hr.out (by have := hkY.out; have := k12.out; omega) (k + 1) (by omega)
          rw [hW.out] at hg0 hna HS2
          rw [hW1.out] at hg1
          have HW0 : Hid ((behP L W).2 = 0) := Lib.hid hg0.1
          have HWL : Hid (W.length ≤ 1000) := Lib.hid (by rw [← hW.out, List.length_append]; have := hg0.2.2; have := hkY.out; omega)
          have HG1 : Hid (0 < S → addE L W (vent r.dy x) = 0) := Lib.hid fun h => by
            have h1 := hg1.1
            rw [if_pos h, beh_snoc HW0.out] at h1
            exact h1
          have hxf : Hid (vent r.dy x = ⟨2, r.dy, x.nm, ⟨#[]⟩, 0, 0, S, false⟩) := Lib.hid (by unfold vent hdSum; rw [hS.out])
          have hnm : Hid ((L[k]'(by have := hlen.out; omega)).nm = x.nm) := Lib.hid (by
            have : L[k]'(by have := hlen.out; omega) = hdS r.H[k] := by simp only [← HM.out, List.getElem_map]
            rw [this, hx.out]; rfl)
          clear hg0 hg1 gc
          have HS31 : Hid (∀ y, Below wr.heap.size wr y → y.cell? ⟨ab, ao + k * 3, none⟩ = some (.int .i64 x.a) ∧ y.cell? ⟨ab, ao + k * 3 + 1, none⟩ = some (.int .i64 x.b) ∧ y.cell? ⟨ab, ao + k * 3 + 2, none⟩ = some (.int .i64 x.c) ∧ y.cell? ⟨nb, k * 3, none⟩ = some (.int .i64 x.a) ∧ y.cell? ⟨nb, k * 3 + 1, none⟩ = some (.int .i64 x.b) ∧ y.cell? ⟨nb, k * 3 + 2, none⟩ = some (.int .i64 x.c)) := Lib.hid fun y hy => (by
            have h0 := HU.out.below hy
            obtain ⟨ab', ao', e, _, hR⟩ := h0.ci.resolve_left hHne
            cases e
            have h1 := ctr_at hR hkH
            have h2 := h0.at' hkH
            rw [hx.out] at h1 h2
            exact ⟨h1.1, h1.2.1, h1.2.2, h2⟩)
          go_upto_region 31 with (fail)
          refine wp_region_held_drew (S := (fun w' => w'.cell? ⟨ab, ao + k * 3, none⟩ = some (.int .i64 x.a) ∧ w'.cell? ⟨ab, ao + k * 3 + 1, none⟩ = some (.int .i64 x.b) ∧ w'.cell? ⟨ab, ao + k * 3 + 2, none⟩ = some (.int .i64 x.c) ∧ w'.cell? ⟨nb, k * 3, none⟩ = some (.int .i64 x.a) ∧ w'.cell? ⟨nb, k * 3 + 1, none⟩ = some (.int .i64 x.b) ∧ w'.cell? ⟨nb, k * 3 + 2, none⟩ = some (.int .i64 x.c))) (by kernel_rfl) (HS31.out _ (Below.refl _ _).drew) (fun hHeld => ?_)
          have hT0 : Below wr.heap.size wr wr.drew := (Below.refl _ _).drew
          generalize hdr : wr.drew = v0 at *
          clear hdr
          refine tkA 0 164 rfl ?_
          refine tkA 1 165 rfl ?_
          refine tkA 2 166 rfl ?_
          refine tkA 3 167 rfl ?_
          refine tkA 4 168 rfl ?_
          refine tkA 5 169 rfl ?_
          refine tkA 6 170 rfl ?_
          refine tkA 7 171 rfl ?_
          refine tkH 8 ⟨some 172, _, _, _, _, _⟩ ?_ rfl ?_ (by assumption) ?_
          rotate_left
          · intro wy hSw
            have hne := neC x.a x.b x.c wy
            go_simp
            all_goals with_reducible rfl
          try simp only [Act.put, sA, sB, sC]
          refine tkA 9 173 rfl ?_
          refine tkA 10 174 rfl ?_
          refine tkA 11 175 rfl ?_
          refine tkA 12 176 rfl ?_
          refine tkA 13 177 rfl ?_
          refine rdA 14 rfl (fun K hK => ?_)
          go_simp
          refine (refCheckContent_any x.a x.b x.c 0 _ hcn).mono ?_
          rintro e v1 ⟨rfl, hbv0⟩
          have hT1 : Below wr.heap.size wr v1 := hT0.trans (hbv0.mono hT0.size)
          clear hbv0
          go_wp2_with fail
          refine hK.out _ _ (HS31.out _ hT1) (fun hHeld => ?_)
          clear hK K
          try simp only [Act.put, sA, sB, sC]
          refine tkA 15 179 rfl ?_
          refine tkA 16 180 rfl ?_
          refine wpAnyH_done (by kernel_rfl) ?_ _
          have hW2 : Below wr.heap.size wr v1 := hT1
          obtain ⟨i0, i1, i2, j0, j1, j2⟩ := HS31.out _ hW2
          clear hHeld
          go_wp2_with fail
          refine (refSum_ok x.a x.b x.c S _ hcB hS).mono ?_
          rintro e q1 ⟨rfl, hbq⟩
          have hQ : Below wr.heap.size wr q1 := hW2.trans (hbq.mono hW2.size)
          have hQz := hQ.size
          clear hbq i0 i1 i2 j0 j1 j2 hW2 hT0 hT1
          by_cases hS0 : 0 < S
          · have HUq := HU.out.below hQ
            have hvv := (show ∃ hlt : vb < q1.heap.size, q1.cell? ⟨vb, vo + k * 3, none⟩ = some (.string x.nm) from by
              rcases HL.out _ HUq.be with h | ⟨b, o, e, hlt, hR⟩
              · have := hlen.out; rw [h] at this; simp at this; omega
              · cases e
                have := (ve_at hR (k := k) (by have := hlen.out; omega)).1
                rw [hnm.out] at this
                exact ⟨hlt, this⟩)
            obtain ⟨hvl, n0⟩ := hvv
            go_wp2_with fail
            refine (AddFill_any L (some ⟨vb, vo, none⟩) cap n W A2 c2 na ⟨2, r.dy, x.nm, ⟨#[]⟩, 0, 0, S, false⟩ _ hlen (by omega) hsz (Lib.hid (HL.out _ HUq.be)) hna cf2.out (Lib.hid (HS2.out.below hQ))).mono ?_
            rintro e q2 hadd
            have hz := HG1.out hS0
            rw [hxf.out] at hz
            rcases hadd with ⟨hbad, _⟩ | ⟨_, A3, n3, c3, rfl, hn3, _, _, hs3, hbq2⟩
            · exact absurd hz hbad
            have hQ2 : Below wr.heap.size wr q2 := hQ.trans (hbq2.mono hQ.size)
            clear hz hbq2 n0 HUq hQz
            go_wp2
            go_roundw
            case rel =>
              have hw : Y ++ vts r.dy (r.H.take (k + 1)) = W ++ [⟨2, r.dy, x.nm, ⟨#[]⟩, 0, 0, S, false⟩] := by rw [hW1.out, if_pos hS0, hxf.out]
              refine ⟨k + 1, A3, n3, c3, by omega, by go_num, rfl, Lib.hid (by rw [hw]; exact hn3.out), Lib.hid (fun h => ?_), Lib.hid (by rw [hw]; exact hs3.out), Lib.hid (HU.out.below hQ2)⟩
              subst h
              rcases hs3.out with h | ⟨_, _, h, _⟩
              · simp at h
              · cases h
            case measure => simp [intOf]; omega
          · go_wp2
            go_roundw
            case rel =>
              have hw : Y ++ vts r.dy (r.H.take (k + 1)) = W := by rw [hW1.out, if_neg (by omega), List.append_nil]
              exact ⟨k + 1, A2, na, c2, by omega, by go_num, rfl, Lib.hid (by rw [hw]; exact hna.out), cf2, Lib.hid (by rw [hw]; exact HS2.out.below hQ), Lib.hid (HU.out.below hQ)⟩
            case measure => simp [intOf]; omega
        · skip
          have kn : ¬ (k : Int) < (n : Int) := by omega
          have hkr : k = r.H.length := by have := HLN.out; omega
          obtain ⟨N9, hD9, hr9, e0, e1, e2, hl9⟩ := vt_bal hDY.out hr.out (by have := hkY.out; have := k12.out; omega)
          rw [← hkr] at hD9 hr9 e0 e1 e2 hl9
          obtain ⟨W, hW⟩ : ∃ W, Hid (Y ++ vts r.dy (r.H.take k) = W) := ⟨_, Lib.hid rfl⟩
          obtain ⟨rV, hrV⟩ : ∃ q, Hid (vtR r r.dy k = q) := ⟨_, Lib.hid rfl⟩
          have HZ : Hid (rV.H = r.H.map zer) := Lib.hid (by rw [← hrV.out, hkr, vtR_all])
          rw [hW.out] at hD9 hr9 hna HS2
          rw [hrV.out] at hr9 e0 e1 e2 hl9
          have HD9 := Lib.hid hD9
          have HR9 := Lib.hid hr9
          have hl10 : rV.H.length = n := by have := HLN.out; omega
          have HL9 := Lib.hid hl10
          have HEQ := Lib.hid (And.intro e0 (And.intro e1 e2))
          clear hkr hD9 hr9 e0 e1 e2 hl9 hl10 hkn
          go_wp2_with fail
          refine (Sums_any L A cap n W A2 c2 na N9 0 rV _ hlen (by omega) hsz (Lib.hid (HL.out _ HU.out.be)) hna HS2 HD9 HR9).mono ?_
          rintro e q1 ⟨hq, hbq⟩
          have he := (hq.resolve_left (fun h => h.1 rfl)).2
          rw [HEQ.out.1, HEQ.out.2.1, HEQ.out.2.2] at he
          subst he
          have hQ := Lib.hid (HU.out.be.trans (hbq.mono HU.out.be.size))
          replace HS2 := Lib.hid (HS2.out.below hbq)
          obtain ⟨g0, hg0⟩ : ∃ z, rV.g0 = z := ⟨_, rfl⟩
          obtain ⟨g1, hg1⟩ : ∃ z, rV.g1 = z := ⟨_, rfl⟩
          obtain ⟨g2, hg2⟩ : ∃ z, rV.g2 = z := ⟨_, rfl⟩
          rw [hg0, hg1, hg2]
          clear hq hbq HU hg0 hg1 hg2 HEQ
          have hqz := hQ.out.size
          go_wp2_with fail
          refine (Contents_any L A cap n W A2 c2 na N9 0 rV _ hlen (by omega) hsz (Lib.hid (HL.out _ (hQ.out.alloc hQ.out.size _))) hna (Lib.hid (HS2.out.below ((Below.refl _ _).alloc (Nat.le_refl _) _))) HD9 HR9 (fun _ => by have := HL9.out; omega)).mono ?_
          rintro e q2 ⟨hq, hbq⟩
          obtain ⟨_, A4, n4, c4, rfl, hn4, hs4⟩ := hq.resolve_left (fun h => h.1 rfl)
          have hn5 : n = n4 := HL9.out.symm.trans hn4.symm
          subst hn5
          have HB := Lib.hid ((blk_new q1 [.int .i64 g0, .int .i64 g1, .int .i64 g2, .int .i64 g0, .int .i64 g1, .int .i64 g2] 51).below hbq)
          have hQ2 := Lib.hid ((hQ.out.alloc hQ.out.size _).trans (hbq.mono (by have := hQ.out.size; simp; omega)))
          have HS4 := Lib.hid hs4
          obtain ⟨sl, s0, s1, s2, s3, s4, s5⟩ := blk6 HB.out
          have hne := fun w => neC g0 g1 g2 w
          clear hq hbq hn4 hs4 HB hQ HS2 hqz
          go_wp2
          go_loopw [28] (fun i wr => ∃ q : Nat, q ≤ n ∧ i = .int .i64 q ∧ Hid (SlRows ctC 3 wr A4 rV.H) ∧ Hid (Below w.heap.size w wr)) (fun i _ => n - (intOf i).toNat)
          case atStart => exact ⟨0, by omega, rfl, HS4, hQ2⟩
          case round =>
            clear HS4 hQ2 s0 s1 s2 s3 s4 s5 sl hne
            obtain ⟨q, hq, rfl, HS4, hQ2⟩ := hrel
            by_cases hqn : q < n
            · have qn : (q : Int) < (n : Int) := by omega
              have hqH : q < rV.H.length := by have := HL9.out; omega
              obtain ⟨lb, lo, e4, hl4, hR4⟩ : ∃ b o, A4 = some ⟨b, o, none⟩ ∧ b < wr.heap.size ∧ RowsAt ctC 3 wr b o rV.H := by
                rcases HS4.out with h | ⟨b, o, e, hl, hR⟩
                · rw [h] at hqH; simp at hqH
                · exact ⟨b, o, e, hl, hR⟩
              subst e4
              obtain ⟨c0, c1, c2'⟩ := ctr_at hR4 hqH
              have hz : rV.H[q] = zer (r.H[q]'(by have := HLN.out; omega)) := by simp only [HZ.out, List.getElem_map]
              rw [hz] at c0 c1 c2'
              replace c0 : wr.cell? ⟨lb, lo + q * 3, none⟩ = some (.int .i64 0) := c0
              replace c1 : wr.cell? ⟨lb, lo + q * 3 + 1, none⟩ = some (.int .i64 0) := c1
              replace c2' : wr.cell? ⟨lb, lo + q * 3 + 2, none⟩ = some (.int .i64 0) := c2'
              have hne := fun w => neC 0 0 0 w
              clear hz hR4
              go_wp2
              go_roundw
              case rel => exact ⟨q + 1, by omega, by go_num, HS4, hQ2⟩
              case measure => simp [intOf]; omega
            · have qn : ¬ (q : Int) < (n : Int) := by omega
              go_wp2
              go_ret
              exact ⟨rfl, hQ2.out⟩
theorem topGasBalanced_any (L : List Ve) (A : Option Addr) (cap : Nat) (X : List Fl) (fA : Option Addr) (fcap : Nat) (cut : Int) (w : World) (hl : L.length ≤ 9223372036854775807) (cA : A = none → cap = 0) (hL : SlRows veV 3 w A L) (hcap : L.length ≤ cap) (hcm : cap ≤ maxLen) (hml : X.length ≤ 9223372036854775807) (cF : fA = none → fcap = 0) (hX : SlRows flV 8 w fA X) (hfc : X.length ≤ fcap) (_ : fcap ≤ maxLen) :
    Calls Try.prog 11 #[.slice A L.length cap, .slice fA X.length fcap, .int .i64 cut] w fun e w' => e = .returned (.bool true) ∧ Below w.heap.size w w' :=
  gasBal_walk L A cap _ X fA fcap _ cut w (Lib.hid rfl) (Lib.hid rfl) hl hml (Lib.hid hL) (Lib.hid hX) cA cF hcap (by unfold maxLen at hcm; omega) hfc
end Go.Proofs.Ytjkhjjmmkdfjmaa
