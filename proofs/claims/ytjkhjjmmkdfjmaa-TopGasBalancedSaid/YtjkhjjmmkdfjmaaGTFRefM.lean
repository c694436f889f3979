import Derived.Test.YtjkhjjmmkdfjmaaGTRmAdd
import Derived.Test.YtjkhjjmmkdfjmaaGTBeh2
import Derived.Test.YtjkhjjmmkdfjmaaGTFShare2
import Derived.Test.YtjkhjjmmkdfjmaaGTFNamed
import Derived.Test.YtjkhjjmmkdfjmaaGTLastReg
import Derived.Outline
namespace Go.Proofs.Ytjkhjjmmkdfjmaa
set_option linter.unusedVariables false
set_option linter.unusedSimpArgs false
theorem map_put {H : List Hd} {j : Nat} (hj : j < H.length) (a b c : Int) : (H.set j (putC H[j] a b c)).map hdS = H.map hdS := by
  rw [List.map_set]
  have : hdS (putC H[j] a b c) = (H.map hdS)[j]'(by simpa using hj) := by rw [List.getElem_map]; rfl
  rw [this]
  exact List.set_getElem_self (by simpa using hj)
theorem alnF_ok {x : Fl} (h : alnF x = 0) : (x.k = 0 ∨ x.k = 1 ∨ x.k = 2) ∧ 1 ≤ x.am ∧ x.am ≤ 1000000000 ∧ gasE x.o x.h = 0 ∧ (x.k = 0 ∨ x.o = 0 ∧ x.h = 0) ∧ (x.k = 0 → x.fr.size = 0) ∧ (x.k = 2 → x.tz.size = 0) ∧ (x.k = 1 → x.fr.data ≠ x.tz.data) ∧ 0 ≤ x.d ∧ x.d ≤ 100000 := aln_ok h
theorem step_ok {r : Rm} {x : Fl} {c : Nat} (hok : RmOk r c) (ha : alnF x = 0) (hp : posF r x = 0) : RmOk (stpR r x) (c + 1) ∧ (stpR r x).H.map hdS = r.H.map hdS := by
  obtain ⟨k, d, fr, tz, o, h, am, pu⟩ := x
  obtain ⟨H, g0, g1, g2, k0, k1, k2, dy⟩ := r
  obtain ⟨hh, b0, b1, b2, b3, b4, b5⟩ := hok
  dsimp only at hh b0 b1 b2 b3 b4 b5
  have ha' : alnE k d fr tz o h am pu = 0 := ha
  obtain ⟨hk, am1, am2, hG, hz, hf, ht, hd, d0, d1⟩ := aln_ok ha'
  unfold posF frI tzI at hp
  dsimp only at hp
  by_cases hm : (fndV fr (H.map hdS) < 0 ∧ k ≠ 0) ∨ (fndV tz (H.map hdS) < 0 ∧ k ≠ 2)
  · rw [if_pos hm] at hp; exact absurd hp (by decide)
  rw [if_neg hm] at hp
  rcases hk with rfl | rfl | rfl
  · rw [if_pos rfl] at hp
    rcases fnd_two tz H with T | ⟨q, hq, T, hnm⟩
    · exact absurd (Or.inr ⟨by omega, by decide⟩) hm
    rw [T, hdAt_q hq] at hp
    obtain ⟨y0, y1, y2, y3, y4, y5⟩ := hh _ (List.getElem_mem hq)
    have hR' : stpR ⟨H, g0, g1, g2, k0, k1, k2, dy⟩ ⟨0, d, fr, tz, o, h, am, pu⟩ = ⟨H.set q (putC H[q] (H[q].a + am * o / 1000) (H[q].b + am * h / 1000) (H[q].c + (am - (am * o / 1000 + am * h / 1000)))), g0 + am * o / 1000, g1 + am * h / 1000, g2 + (am - (am * o / 1000 + am * h / 1000)), k0, k1, k2, d⟩ := by
      unfold stpR tzI; dsimp only; rw [if_pos rfl, T, hdAt_q hq]; unfold inR; rw [Int.toNat_natCast]
    rw [hR']
    obtain ⟨-, -, -, -, -, -, e1, X0, Y0, Z0, X1, Y1, Z1⟩ := bri_math hG am1 am2 rfl rfl rfl
    have hs := pos_room (pos0_z hp) y2 y3 y4 y5
    unfold hdSum at hs
    have cc := conB_iff.1 y1
    refine ⟨⟨mem_set_ok hh ⟨y0, conB_iff.2 ⟨?_, ?_, ?_, ?_⟩, y2, y3, y4, y5⟩, ?_, ?_, ?_, ?_, ?_, ?_⟩, map_put hq _ _ _⟩
    all_goals (try dsimp only [putC]) <;> omega
  · rw [if_neg (by decide), if_neg (by decide)] at hp
    rcases fnd_two fr H with F | ⟨p, hpl, F, hnp⟩
    · exact absurd (Or.inl ⟨by omega, by decide⟩) hm
    rcases fnd_two tz H with T | ⟨q, hq, T, hnm⟩
    · exact absurd (Or.inr ⟨by omega, by decide⟩) hm
    rw [F, T, hdAt_q hpl, hdAt_q hq] at hp
    obtain ⟨y0, y1, y2, y3, y4, y5⟩ := hh _ (List.getElem_mem hpl)
    obtain ⟨v0, v1, v2, v3, v4, v5⟩ := hh _ (List.getElem_mem hq)
    have hne : p ≠ q := by
      intro e; subst e
      exact hd rfl (by rw [← hnp, ← hnm])
    obtain ⟨⟨X, Y, Z⟩, hs⟩ : ∃ s, shareR H[p].a H[p].b H[p].c am = s := ⟨_, rfl⟩
    have hR' : stpR ⟨H, g0, g1, g2, k0, k1, k2, dy⟩ ⟨1, d, fr, tz, o, h, am, pu⟩ = ⟨(H.set p (putC H[p] (H[p].a - X) (H[p].b - Y) (H[p].c - Z))).set q (putC H[q] (H[q].a + X) (H[q].b + Y) (H[q].c + Z)), g0, g1, g2, k0, k1, k2, d⟩ := by
      unfold stpR frI tzI; dsimp only; rw [if_neg (by decide), if_neg (by decide), F, T, hdAt_q hpl, hdAt_q hq, hs]; unfold movR; rw [Int.toNat_natCast, Int.toNat_natCast]
    rw [hR']
    have cc := conB_iff.1 y1
    have dd := conB_iff.1 v1
    have hz' := pos1_z hp
    unfold hdSum at hz'
    have hs' := pos_room hz'.2 v2 v3 v4 v5
    obtain ⟨e1, ⟨X0, X1, -, -⟩, ⟨Y0, Y1, -, -⟩, Z0, Z1, -, -⟩ := share_ok y1 (by omega) hz'.1 hs
    have hget : (H.set p (putC H[p] (H[p].a - X) (H[p].b - Y) (H[p].c - Z)))[q]'(by simpa using hq) = H[q] := by rw [List.getElem_set, if_neg hne]
    refine ⟨⟨mem_set_ok (mem_set_ok hh ⟨y0, conB_iff.2 ⟨?_, ?_, ?_, ?_⟩, y2, y3, y4, y5⟩) ⟨v0, conB_iff.2 ⟨?_, ?_, ?_, ?_⟩, v2, v3, v4, v5⟩, ?_, ?_, ?_, ?_, ?_, ?_⟩, ?_⟩
    rotate_right
    · show List.map hdS (List.set _ q _) = _
      rw [← hget]
      exact (map_put (by simpa using hq) _ _ _).trans (map_put hpl _ _ _)
    all_goals (try dsimp only [putC]) <;> omega
  · rw [if_neg (by decide), if_pos rfl] at hp
    rcases fnd_two fr H with F | ⟨q, hq, F, hnm⟩
    · exact absurd (Or.inl ⟨by omega, by decide⟩) hm
    rw [F, hdAt_q hq] at hp
    obtain ⟨y0, y1, y2, y3, y4, y5⟩ := hh _ (List.getElem_mem hq)
    obtain ⟨⟨X, Y, Z⟩, hs⟩ : ∃ s, shareR H[q].a H[q].b H[q].c am = s := ⟨_, rfl⟩
    have hR' : stpR ⟨H, g0, g1, g2, k0, k1, k2, dy⟩ ⟨2, d, fr, tz, o, h, am, pu⟩ = ⟨H.set q (putC H[q] (H[q].a - X) (H[q].b - Y) (H[q].c - Z)), g0, g1, g2, k0 + X, k1 + Y, k2 + Z, d⟩ := by
      unfold stpR frI; dsimp only; rw [if_neg (by decide), if_pos rfl, F, hdAt_q hq, hs]; unfold outR; rw [Int.toNat_natCast]
    rw [hR']
    have cc := conB_iff.1 y1
    have hz' := pos2_z hp
    unfold hdSum at hz'
    obtain ⟨e1, ⟨X0, X1, -, -⟩, ⟨Y0, Y1, -, -⟩, Z0, Z1, -, -⟩ := share_ok y1 (by omega) hz' hs
    refine ⟨⟨mem_set_ok hh ⟨y0, conB_iff.2 ⟨?_, ?_, ?_, ?_⟩, y2, y3, y4, y5⟩, ?_, ?_, ?_, ?_, ?_, ?_⟩, map_put hq _ _ _⟩
    all_goals (try dsimp only [putC]) <;> omega
end Go.Proofs.Ytjkhjjmmkdfjmaa

namespace Go.Proofs.Ytjkhjjmmkdfjmaa
open Go.ChangeShapes Go.WideShapes Go.ChangeAt Go.RowKit
set_option linter.unusedVariables false
set_option linter.unusedSimpArgs false
attribute [local go_sem ↓] Go.wp_at_zero Go.wp_at_succ
theorem refSum_b (a b c s : Int) (w : World) (a0 : 0 ≤ a) (a1 : a ≤ 1000000000) (b0 : 0 ≤ b) (b1 : b ≤ 1000000000) (c0 : 0 ≤ c) (c1 : c ≤ 1000000000) (hs : Hid (a + b + c = s)) : Calls Try.prog 30 #[.agg #[.int .i64 a, .int .i64 b, .int .i64 c]] w fun e w' => e = .returned (.int .i64 s) ∧ Below w.heap.size w w' := by
  go_enter Try.func30, Try.ntmps30
  go_wp2
  go_ret
  exact ⟨ret_int hs.out, belA⟩
theorem refSum_ok (a b c s : Int) (w : World) (h : Hid (conB a b c = true)) (hs : Hid (a + b + c = s)) : Calls Try.prog 30 #[.agg #[.int .i64 a, .int .i64 b, .int .i64 c]] w fun e w' => e = .returned (.int .i64 s) ∧ Below w.heap.size w w' := by
  obtain ⟨h1, h2, h3, h4⟩ := conB_iff.1 h.out
  exact refSum_b a b c s w h1 (by omega) h2 (by omega) h3 (by omega) hs
theorem conB_alt (a b c : Int) : conB a b c = (inB a 0 1000000000 && inB b 0 1000000000 && inB c 0 1000000000 && decide (a + b + c ≤ 1000000000)) := by
  rw [Bool.eq_iff_iff, conB_iff]
  simp only [Bool.and_eq_true, inB_iff, decide_eq_true_eq]
  omega
set_option maxHeartbeats 1000000 in
set_option maxRecDepth 100000 in
theorem refCheckContent_any (a b c E : Int) (w : World) (hE : Hid (conE a b c = E)) : Calls Try.prog 32 #[.agg #[.int .i64 a, .int .i64 b, .int .i64 c]] w fun e w' => e = .returned (.int .i64 E) ∧ Below w.heap.size w w' := by
  have hA := conB_alt a b c
  rcases inB_cases a 0 1000000000 with h1 | h1
  · rcases inB_cases b 0 1000000000 with h2 | h2
    · rcases inB_cases c 0 1000000000 with h3 | h3
      · obtain ⟨⟨a0, a1⟩, ⟨b0, b1⟩, c0, c1⟩ := And.intro (inB_iff.1 h1) (And.intro (inB_iff.1 h2) (inB_iff.1 h3))
        obtain ⟨s, hs⟩ : ∃ z, Hid (a + b + c = z) := ⟨_, Lib.hid rfl⟩
        rw [h1, h2, h3] at hA
        by_cases h4 : a + b + c ≤ 1000000000
        · have hr : Hid (E = 0) := Lib.hid (by rw [← hE.out]; exact conE_t (by rw [hA]; simpa using h4))
          have s1 : s ≤ 1000000000 := by rw [← hs.out]; exact h4
          clear hE hA h4
          go_enter Try.func32, Try.ntmps32
          go_wp2_with (first | (go_at_call 33; ((with_reducible refine (baseWithin_any _ _ _ _).mono ?_)); rintro e w' ⟨rfl, rfl⟩) | (go_at_call 30; ((with_reducible refine (refSum_b a b c s _ a0 a1 b0 b1 c0 c1 hs).mono ?_)); rintro e w1 ⟨rfl, hbw⟩; obtain ⟨hbc, hbf⟩ := bcell hbw; have hbs := hbw.size))
          go_ret
          exact ⟨ret_int hr.out.symm, belA⟩
        · have hr : Hid (E = 2) := Lib.hid (by rw [← hE.out]; exact conE_f (by rw [hA]; simpa using h4))
          have s1 : 1000000000 < s := by rw [← hs.out]; omega
          clear hE hA h4
          go_enter Try.func32, Try.ntmps32
          go_wp2_with (first | (go_at_call 33; ((with_reducible refine (baseWithin_any _ _ _ _).mono ?_)); rintro e w' ⟨rfl, rfl⟩) | (go_at_call 30; ((with_reducible refine (refSum_b a b c s _ a0 a1 b0 b1 c0 c1 hs).mono ?_)); rintro e w1 ⟨rfl, hbw⟩; obtain ⟨hbc, hbf⟩ := bcell hbw; have hbs := hbw.size))
          go_ret
          exact ⟨ret_int hr.out.symm, belA⟩
      · have hr : Hid (E = 2) := Lib.hid (by rw [← hE.out]; exact conE_f (by rw [hA, h1, h2, h3]; rfl))
        clear hE hA
        go_enter Try.func32, Try.ntmps32
        go_wp2_with (go_at_call 33; ((with_reducible refine (baseWithin_any _ _ _ _).mono ?_)); rintro e w' ⟨rfl, rfl⟩)
        go_ret
        exact ⟨ret_int hr.out.symm, belA⟩
    · have hr : Hid (E = 2) := Lib.hid (by rw [← hE.out]; exact conE_f (by rw [hA, h1, h2]; rfl))
      clear hE hA
      go_enter Try.func32, Try.ntmps32
      go_wp2_with (go_at_call 33; ((with_reducible refine (baseWithin_any _ _ _ _).mono ?_)); rintro e w' ⟨rfl, rfl⟩)
      go_ret
      exact ⟨ret_int hr.out.symm, belA⟩
  · have hr : Hid (E = 2) := Lib.hid (by rw [← hE.out]; exact conE_f (by rw [hA, h1]; rfl))
    clear hE hA
    go_enter Try.func32, Try.ntmps32
    go_wp2_with (go_at_call 33; ((with_reducible refine (baseWithin_any _ _ _ _).mono ?_)); rintro e w' ⟨rfl, rfl⟩)
    go_ret
    exact ⟨ret_int hr.out.symm, belA⟩
end Go.Proofs.Ytjkhjjmmkdfjmaa
