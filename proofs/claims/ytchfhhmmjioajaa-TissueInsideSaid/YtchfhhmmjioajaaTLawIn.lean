/- The walk of shotlinelaw03.TissueInside: it returns true. -/
import Derived.Test.YtchfhhmmjioajaaTAwake
import Derived.Test.YtchfhhmmjioajaaTRefIn
import Derived.Test.YtchfhhmmjioajaaTClone
import Derived.Deep.CutRange
import Derived.Deep.CutBlock
import Derived.Outline
namespace Go.Proofs.Ytchfhhmmjioajaa
open Go.ChangeShapes Go.WideShapes Go.ChangeAt Go.RowKit
set_option linter.unusedVariables false
set_option linter.unusedSimpArgs false
attribute [local go_sem ↓] Go.wp_at_zero Go.wp_at_succ
theorem firE_two (x y : Int) : firE [x, y] = if x = 0 then y else x := by
  unfold firE
  by_cases h : x = 0
  · simp [h, firE]; exact fun h => h.symm
  · simp [h]
theorem inside_a {P R : List Ld} (h : P.length = R.length) (h1 : fstE loadE P ≠ 0) : insideE P R = fstE loadE P := by rw [insideE, if_pos h, firE_two, if_neg h1]
theorem inside_b {P R : List Ld} (h : P.length = R.length) (h1 : fstE loadE P = 0) : insideE P R = fstE loadE R := by rw [insideE, if_pos h, firE_two, if_pos h1]
theorem refCheckLoad_is (a b c d r : Int) (w : World) (hr : Hid (lodE a b c d = r)) :
    Calls Try.prog 63 #[.agg #[.int .i64 a, .int .i64 b, .int .i64 c, .int .i64 d]] w fun e w' => e = .returned (.int .i64 r) ∧ Below w.heap.size w w' := by
  rw [← hr.out]; exact refCheckLoad_any a b c d w
theorem Inside_is (P R : List Ld) (A B : Option Addr) (cap cap' : Nat) (v : Bool) (c : Int) (w : World) (hv : Hid ((if insideE P R = 0 then allIn P R else false) = v)) (hc : Hid (insideE P R = c)) (hl : P.length ≤ 1000) (hl' : R.length ≤ 1000) (hP : SlLd w A P) (hR : SlLd w B R) :
    Calls Try.prog 41 #[.slice A P.length cap, .slice B R.length cap'] w fun e w' => e = .returned (.tuple #[.bool v, .int .i64 c]) ∧ Below w.heap.size w w' := by
  rw [← hv.out, ← hc.out]; exact Inside_any P R A B cap cap' w hl hl' hP hR
theorem rI_is (P R : List Ld) (A B : Option Addr) (cap cap' : Nat) (w : World) (v : Bool) (hv : Hid (allIn P R = v)) (hl : P.length ≤ 1000) (hle : Hid (P.length = R.length)) (hP : Hid (SlLd w A P)) (hR : Hid (SlLd w B R)) :
    Calls Try.prog 64 #[.slice A P.length cap, .slice B R.length cap'] w fun e w' => e = .returned (.bool v) ∧ Below w.heap.size w w' := by
  rw [← hv.out]; exact refInside_any P R A B cap cap' w hl hle hP hR
set_option maxRecDepth 100000 in
set_option maxHeartbeats 4000000 in
theorem tissueInside_any (P R : List Ld) (A B : Option Addr) (cap cap' : Nat) (w : World) (hA : A = none → cap = 0) (hB : B = none → cap' = 0) (hml : P.length ≤ cap) (hml' : R.length ≤ cap') (hcap : cap ≤ maxLen) (hcap' : cap' ≤ maxLen) (hP : SlLd w A P) (hR : SlLd w B R) :
    Calls Try.prog 13 #[.slice A P.length cap, .slice B R.length cap'] w fun e w' => e = .returned (.bool true) ∧ Below w.heap.size w w' := by
  have HP := Lib.hid hP
  have HR := Lib.hid hR
  have HA := Lib.hid hA
  have HBB := Lib.hid hB
  have hmx : P.length ≤ 9223372036854775807 ∧ R.length ≤ 9223372036854775807 := by unfold maxLen at hcap hcap'; omega
  have HMX := Lib.hid hmx
  clear hP hR hA hB hml hml' hcap hcap' hmx
  by_cases h6 : 6 < P.length
  · have h6' : (6 : Int) < P.length := by omega
    go_enter Try.func13, Try.ntmps13
    go_wp2_with fail
    refine (tawake_any _).mono ?_
    rintro e w1 ⟨rfl, hB1⟩
    go_wp2
    go_ret
    exact ⟨by rfl, hB1⟩
  by_cases h7 : 6 < R.length
  · have h6' : ¬ (6 : Int) < P.length := by omega
    have h7' : (6 : Int) < R.length := by omega
    go_enter Try.func13, Try.ntmps13
    go_wp2_with fail
    refine (tawake_any _).mono ?_
    rintro e w1 ⟨rfl, hB1⟩
    go_wp2
    go_ret
    exact ⟨by rfl, hB1⟩
  have h6' : (P.length : Int) ≤ 6 := by omega
  have h7' : (R.length : Int) ≤ 6 := by omega
  obtain ⟨cc, hcc⟩ : ∃ x, Hid (insideE P R = x) := ⟨_, Lib.hid rfl⟩
  obtain ⟨vv, hvv⟩ : ∃ x, Hid ((if insideE P R = 0 then allIn P R else false) = x) := ⟨_, Lib.hid rfl⟩
  obtain ⟨aa, haa⟩ : ∃ x, Hid (allIn P R = x) := ⟨_, Lib.hid rfl⟩
  go_enter Try.func13, Try.ntmps13
  go_wp2_with fail
  refine (tawake_any _).mono ?_
  rintro e w1 ⟨rfl, hB1⟩
  go_wp2_with fail
  refine (lawLoads_any P A cap _ (by omega) HA.out (HP.out.below hB1)).mono ?_
  rintro e w2 ⟨A2, cap2, rfl, hS2, _, hb2⟩
  have HS2 := Lib.hid hS2
  have hB2 : Below w.heap.size w w2 := hB1.trans (hb2.mono hB1.size)
  clear hb2 hB1 hS2
  go_wp2_with fail
  refine (lawLoads_any R B cap' _ (by omega) HBB.out (HR.out.below hB2)).mono ?_
  rintro e w3 ⟨A3, cap3, rfl, hS3, _, hb3⟩
  have HS3 := Lib.hid hS3
  have HS2' := Lib.hid (HS2.out.below hb3)
  have hB3 : Below w.heap.size w w3 := hB2.trans (hb3.mono hB2.size)
  clear hb3 hB2 hS3 HS2
  go_wp2_with fail
  refine (Inside_is P R A2 A3 cap2 cap3 vv cc _ hvv hcc (by omega) (by omega) HS2'.out HS3.out).mono ?_
  rintro e w4 ⟨rfl, hb4⟩
  have hB4 : Below w.heap.size w w4 := hB3.trans (hb4.mono hB3.size)
  clear hb4 hB3 HS2' HS3
  by_cases hle : P.length = R.length
  · have hb : ((P.length : Int) != (R.length : Int)) = false := neI_f (by omega)
    have HLE := Lib.hid hle
    clear hle
    obtain ⟨fP, hfP⟩ : ∃ x, Hid (fstE loadE P = x) := ⟨_, Lib.hid rfl⟩
    have HfP2 : Hid (fP = fstE loadE P) := hfP.out.symm
    go_upto_block 0 with fail
    go_cut [7, 8] from 33 to 47 (fun s7 s8 wx => s7 = .int .i64 fP ∧ Below w.heap.size w wx)
    case first =>
      go_wp2_with fail
      go_loopw [7, 8] (fun c i wr => ∃ (k : Nat) (x : Int), k ≤ P.length ∧ i = .int .i64 k ∧ c = .int .i64 x ∧ Hid ((x = 0 ∧ fP = fstE loadE P ∧ ∀ j, (hj : j < k) → (hj' : j < P.length) → loadE P[j] = 0) ∨ (x ≠ 0 ∧ fP = x)) ∧ Below w.heap.size w wr) (fun _ i _ => P.length - (intOf i).toNat)
      case atStart => exact ⟨0, 0, by omega, rfl, rfl, Or.inl ⟨rfl, HfP2.out, fun j hj => by omega⟩, by assumption⟩
      case round =>
        obtain ⟨k, x, hk, rfl, rfl, hx, hB⟩ := hrel
        rcases hx.out with ⟨h0, hpost, hz⟩ | ⟨hn, hpost⟩
        · subst h0
          have HZ := Lib.hid hz
          have HPost := Lib.hid hpost
          clear hx hz hpost
          by_cases hkl : k < P.length
          · have hkl2 : (k : Int) < P.length := by omega
            rcases (HP.out.below hB : SlLd wr A P) with hnil | ⟨pb, po, hAA, plt, PL⟩
            · rw [hnil] at hkl; simp at hkl
            subst hAA
            obtain ⟨c0, c1, c2, c3⟩ := PL k hkl
            obtain ⟨r, hr⟩ : ∃ r, Hid (lodE P[k].a P[k].b P[k].c P[k].d = r) := ⟨_, Lib.hid rfl⟩
            obtain ⟨p0, hp0⟩ : ∃ x, Hid (P[k].a = x) := ⟨P[k].a, Lib.hid rfl⟩
            obtain ⟨p1, hp1⟩ : ∃ x, Hid (P[k].b = x) := ⟨P[k].b, Lib.hid rfl⟩
            obtain ⟨p2, hp2⟩ : ∃ x, Hid (P[k].c = x) := ⟨P[k].c, Lib.hid rfl⟩
            obtain ⟨p3, hp3⟩ : ∃ x, Hid (P[k].d = x) := ⟨P[k].d, Lib.hid rfl⟩
            have hl9 : Hid (loadE P[k] = r) := hr
            rw [hp0.out, hp1.out, hp2.out, hp3.out] at hr
            rw [hp0.out] at c0
            rw [hp1.out] at c1
            rw [hp2.out] at c2
            rw [hp3.out] at c3
            clear PL hp0 hp1 hp2 hp3
            go_wp2_with fail
            refine (refCheckLoad_is p0 p1 p2 p3 r _ hr).mono ?_
            rintro e w9 ⟨rfl, hb9⟩
            have hB9 : Below w.heap.size w w9 := hB.trans (hb9.mono hB.size)
            clear hb9 hB c0 c1 c2 c3
            go_wp2
            go_roundw
            case rel =>
              refine ⟨k + 1, r, by omega, by go_num, rfl, ?_, hB9⟩
              by_cases hr0 : r = 0
              · exact Or.inl ⟨hr0, HPost.out, fun j hj hj' => by
                  by_cases e : j = k
                  · subst e; rw [hl9.out, hr0]
                  · exact HZ.out j (by omega) hj'⟩
              · exact Or.inr ⟨hr0, by rw [HPost.out, fstE_at hkl (fun j hj => HZ.out j hj (by omega)) (by rw [hl9.out]; exact hr0), hl9.out]⟩
            case measure => simp [intOf]; omega
          · have hkk : k = P.length := by omega
            have hz0 : fstE loadE P = 0 := fstE_z fun j hj => HZ.out j (by omega) hj
            have HF := Lib.hid (show fP = 0 by rw [HPost.out, hz0])
            have hkl2 : ¬ (k : Int) < P.length := by omega
            clear hkk hz0 HZ HPost hkl
            go_wp2_with fail
            go_meet
            exact ⟨by rw [HF.out], hB⟩
        · have hn2 : (x == 0) = false := by simpa using hn
          have HPost := Lib.hid hpost
          clear hx hpost hn
          by_cases hkl : (k : Int) < P.length
          · go_wp2_with fail
            go_meet
            exact ⟨by rw [HPost.out], hB⟩
          · go_wp2_with fail
            go_meet
            exact ⟨by rw [HPost.out], hB⟩
    case rest =>
    obtain ⟨rfl, hBB4⟩ := hcut
    clear hB4
    obtain ⟨w5, hw5⟩ : ∃ V, V = wc := ⟨_, rfl⟩
    rw [← hw5] at hBB4
    rw [← hw5]
    have hB5 := hBB4
    clear hw5 hBB4
    have HCC : Hid ((fP = 0 ∧ cc = fstE loadE R ∧ ∀ j, (hj : j < 0) → (hj' : j < R.length) → loadE R[j] = 0) ∨ (fP ≠ 0 ∧ cc = fP)) := by
      by_cases hf0 : fP = 0
      · exact Or.inl ⟨hf0, by rw [← hcc.out, inside_b HLE.out (by rw [hfP.out]; exact hf0)], fun j hj => by omega⟩
      · exact Or.inr ⟨hf0, by rw [← hcc.out, inside_a HLE.out (by rw [hfP.out]; exact hf0), hfP.out]⟩
    go_upto_block 2 with fail
    go_cut [7, 9] from 48 to 62 (fun s7 s8 wx => s7 = .int .i64 cc ∧ Below w.heap.size w wx)
    case first =>
      go_wp2_with fail
      go_loopw [7, 9] (fun c i wr => ∃ (k : Nat) (x : Int), k ≤ R.length ∧ i = .int .i64 k ∧ c = .int .i64 x ∧ Hid ((x = 0 ∧ cc = fstE loadE R ∧ ∀ j, (hj : j < k) → (hj' : j < R.length) → loadE R[j] = 0) ∨ (x ≠ 0 ∧ cc = x)) ∧ Below w.heap.size w wr) (fun _ i _ => R.length - (intOf i).toNat)
      case atStart => exact ⟨0, fP, by omega, rfl, rfl, HCC.out, by assumption⟩
      case round =>
        obtain ⟨k, x, hk, rfl, rfl, hx, hB⟩ := hrel
        rcases hx.out with ⟨h0, hpost, hz⟩ | ⟨hn, hpost⟩
        · subst h0
          have HZ := Lib.hid hz
          have HPost := Lib.hid hpost
          clear hx hz hpost
          by_cases hkl : k < R.length
          · have hkl2 : (k : Int) < R.length := by omega
            rcases (HR.out.below hB : SlLd wr B R) with hnil | ⟨pb, po, hAA, plt, PL⟩
            · rw [hnil] at hkl; simp at hkl
            subst hAA
            obtain ⟨c0, c1, c2, c3⟩ := PL k hkl
            obtain ⟨r, hr⟩ : ∃ r, Hid (lodE R[k].a R[k].b R[k].c R[k].d = r) := ⟨_, Lib.hid rfl⟩
            obtain ⟨p0, hp0⟩ : ∃ x, Hid (R[k].a = x) := ⟨R[k].a, Lib.hid rfl⟩
            obtain ⟨p1, hp1⟩ : ∃ x, Hid (R[k].b = x) := ⟨R[k].b, Lib.hid rfl⟩
            obtain ⟨p2, hp2⟩ : ∃ x, Hid (R[k].c = x) := ⟨R[k].c, Lib.hid rfl⟩
            obtain ⟨p3, hp3⟩ : ∃ x, Hid (R[k].d = x) := ⟨R[k].d, Lib.hid rfl⟩
            have hl9 : Hid (loadE R[k] = r) := hr
            rw [hp0.out, hp1.out, hp2.out, hp3.out] at hr
            rw [hp0.out] at c0
            rw [hp1.out] at c1
            rw [hp2.out] at c2
            rw [hp3.out] at c3
            clear PL hp0 hp1 hp2 hp3
            go_wp2_with fail
            refine (refCheckLoad_is p0 p1 p2 p3 r _ hr).mono ?_
            rintro e w9 ⟨rfl, hb9⟩
            have hB9 : Below w.heap.size w w9 := hB.trans (hb9.mono hB.size)
            clear hb9 hB c0 c1 c2 c3
            go_wp2
            go_roundw
            case rel =>
              refine ⟨k + 1, r, by omega, by go_num, rfl, ?_, hB9⟩
              by_cases hr0 : r = 0
              · exact Or.inl ⟨hr0, HPost.out, fun j hj hj' => by
                  by_cases e : j = k
                  · subst e; rw [hl9.out, hr0]
                  · exact HZ.out j (by omega) hj'⟩
              · exact Or.inr ⟨hr0, by rw [HPost.out, fstE_at hkl (fun j hj => HZ.out j hj (by omega)) (by rw [hl9.out]; exact hr0), hl9.out]⟩
            case measure => simp [intOf]; omega
          · have hkk : k = R.length := by omega
            have hz0 : fstE loadE R = 0 := fstE_z fun j hj => HZ.out j (by omega) hj
            have HF := Lib.hid (show cc = 0 by rw [HPost.out, hz0])
            have hkl2 : ¬ (k : Int) < R.length := by omega
            clear hkk hz0 HZ HPost hkl
            go_wp2_with fail
            go_meet
            exact ⟨by rw [HF.out], hB⟩
        · have hn2 : (x == 0) = false := by simpa using hn
          have HPost := Lib.hid hpost
          clear hx hpost hn
          by_cases hkl : (k : Int) < R.length
          · go_wp2_with fail
            go_meet
            exact ⟨by rw [HPost.out], hB⟩
          · go_wp2_with fail
            go_meet
            exact ⟨by rw [HPost.out], hB⟩
    case rest =>
    obtain ⟨rfl, hBB4⟩ := hcut
    rcases ez2 cc with ⟨hz0, hzb⟩ | ⟨hz0, hzb⟩
    · have h0 := hz0.out
      have hva : vv = aa := by rw [← hvv.out, hcc.out, h0, if_pos rfl, haa.out]
      subst hva h0
      have HBB := Lib.hid hBB4
      clear hz0 hvv hcc HCC hB5
      go_wp2_with fail
      refine (rI_is P R A B cap cap' _ vv haa (by omega) HLE (Lib.hid (HP.out.below HBB.out)) (Lib.hid (HR.out.below HBB.out))).mono ?_
      rintro e w8 ⟨rfl, hb8⟩
      go_wp2
      all_goals (go_ret; exact ⟨by first | rfl | simp, HBB.out.trans (hb8.mono HBB.out.size)⟩)
    · have hvf : vv = false := by rw [← hvv.out, hcc.out, if_neg hz0.out]
      subst hvf
      clear hz0 hvv hcc HCC hB5
      go_wp2
      all_goals (go_ret; exact ⟨by first | rfl | simp, hBB4⟩)
  · have hb : ((P.length : Int) != (R.length : Int)) = true := neI_t (by omega)
    have h10 : Hid (cc = 10 ∧ vv = false) := by
      have h0 : insideE P R = 10 := by rw [insideE, if_neg hle]
      exact ⟨by rw [← hcc.out, h0], by rw [← hvv.out, h0]; rfl⟩
    obtain ⟨k1, k2⟩ := h10.out
    subst k1 k2
    clear hle h10 hcc hvv haa
    by_cases hp : (0 : Int) < P.length
    · by_cases hr : (0 : Int) < R.length
      · go_wp2_with fail
        refine wp_loop_rounds 1 ?_
        rw [rounds_succ]
        go_wp2_with fail
        refine wp_loop_rounds 1 ?_
        rw [rounds_succ]
        go_wp2
        go_ret
        exact ⟨by rfl, hB4⟩
      · go_wp2_with fail
        refine wp_loop_rounds 1 ?_
        rw [rounds_succ]
        go_wp2_with fail
        refine wp_loop_rounds 1 ?_
        rw [rounds_succ]
        go_wp2
        go_ret
        exact ⟨by rfl, hB4⟩
    · by_cases hr : (0 : Int) < R.length
      · go_wp2_with fail
        refine wp_loop_rounds 1 ?_
        rw [rounds_succ]
        go_wp2_with fail
        refine wp_loop_rounds 1 ?_
        rw [rounds_succ]
        go_wp2
        go_ret
        exact ⟨by rfl, hB4⟩
      · exact absurd (show P.length = R.length by omega) (by intro h; simp [h] at hb)
end Go.Proofs.Ytchfhhmmjioajaa
