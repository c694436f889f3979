/- Small contracts for the statements on limits: light, KeptAt at every input. -/
import Derived.Test.YtbdiljbjddppcaaTAwake
import Derived.Test.YtbdiljbjddppcaaTKept2
import Derived.Test.YtbdiljbjddppcaaTRefKept
import Derived.Outline
namespace Go.Proofs.Ytbdiljbjddppcaa
open Go.ChangeShapes Go.WideShapes Go.ChangeAt Go.RowKit
set_option linter.unusedVariables false
set_option linter.unusedSimpArgs false
attribute [local go_sem ↓] Go.wp_at_zero Go.wp_at_succ
theorem light_is (T : List Cm) (L : List Ld) (A B : Option Addr) (cap cap' : Nat) (fr tz se o hh fi : Int) (r : Bool) (w : World) (hl : L.length ≤ 9223372036854775807) (hr : Hid ((fewB T.length && decide (L.length ≤ 19)) = r)) :
    Calls Try.prog 26 #[.agg #[.slice A T.length cap, .slice B L.length cap', .int .i64 fr, .int .i64 tz, .int .i64 se, .int .i64 o, .int .i64 hh, .int .i64 fi]] w fun e w' => e = .returned (.bool r) ∧ Below w.heap.size w w' := by
  cases hf : fewB T.length with
  | false =>
    have HF := Lib.hid (fun w => few_is T.length A cap false w (Lib.hid hf))
    have hv : Hid (r = false) := by show _ = _; rw [← hr.out, hf]; rfl
    clear hf hr
    go_enter Try.func26, Try.ntmps26
    go_wp2_with ((go_at_call 10; ((with_reducible refine (HF.out _).mono ?_)); rintro e w' ⟨rfl, rfl⟩))
    go_ret
    exact ⟨by first | exact ret_bool hv.out.symm | exact ret_bool (by rw [hv.out]; simp; omega), (by (repeat (first | (with_reducible refine Below.drew ?_) | (with_reducible refine below_drewN ?_ _) | (with_reducible refine Below.alloc ?_ (by first | omega | (simp; done) | (simp; omega) | (simp at *; omega)) _) | (with_reducible refine Below.setCell ?_ (by first | omega | (simp; done) | (simp; omega) | (simp at *; omega)) _) | (with_reducible exact Below.refl _ _) | (with_reducible assumption) | (with_reducible refine Below.trans ?_ (Below.mono (by assumption) (by first | omega | (simp; done) | (simp; omega) | (simp at *; omega)))))))⟩
  | true =>
    have HF := Lib.hid (fun w => few_is T.length A cap true w (Lib.hid hf))
    by_cases h19 : L.length ≤ 19
    · have h19' : (L.length : Int) ≤ 19 := by omega
      have hv : Hid (r = true) := by show _ = _; rw [← hr.out, hf]; simp [h19]
      clear hf hr h19
      go_enter Try.func26, Try.ntmps26
      go_wp2_with ((go_at_call 10; ((with_reducible refine (HF.out _).mono ?_)); rintro e w' ⟨rfl, rfl⟩))
      go_ret
      exact ⟨by first | exact ret_bool hv.out.symm | exact ret_bool (by rw [hv.out]; simp; omega), (by (repeat (first | (with_reducible refine Below.drew ?_) | (with_reducible refine below_drewN ?_ _) | (with_reducible refine Below.alloc ?_ (by first | omega | (simp; done) | (simp; omega) | (simp at *; omega)) _) | (with_reducible refine Below.setCell ?_ (by first | omega | (simp; done) | (simp; omega) | (simp at *; omega)) _) | (with_reducible exact Below.refl _ _) | (with_reducible assumption) | (with_reducible refine Below.trans ?_ (Below.mono (by assumption) (by first | omega | (simp; done) | (simp; omega) | (simp at *; omega)))))))⟩
    · have h19' : ¬ (L.length : Int) ≤ 19 := by omega
      have hv : Hid (r = false) := by show _ = _; rw [← hr.out, hf]; simp [h19]
      clear hf hr h19
      go_enter Try.func26, Try.ntmps26
      go_wp2_with ((go_at_call 10; ((with_reducible refine (HF.out _).mono ?_)); rintro e w' ⟨rfl, rfl⟩))
      go_ret
      exact ⟨by first | exact ret_bool hv.out.symm | exact ret_bool (by rw [hv.out]; simp; omega), (by (repeat (first | (with_reducible refine Below.drew ?_) | (with_reducible refine below_drewN ?_ _) | (with_reducible refine Below.alloc ?_ (by first | omega | (simp; done) | (simp; omega) | (simp at *; omega)) _) | (with_reducible refine Below.setCell ?_ (by first | omega | (simp; done) | (simp; omega) | (simp at *; omega)) _) | (with_reducible exact Below.refl _ _) | (with_reducible assumption) | (with_reducible refine Below.trans ?_ (Below.mono (by assumption) (by first | omega | (simp; done) | (simp; omega) | (simp at *; omega)))))))⟩
theorem few_le {n : Nat} (h : fewB n = true) : n ≤ 18 := by
  unfold fewB at h
  simp at h
  omega
theorem firE_3 {x y z : Int} (h : firE [x, y, z] = 0) : x = 0 ∧ y = 0 ∧ z = 0 := by
  unfold firE at h
  by_cases hx : x = 0
  · by_cases hy : y = 0
    · by_cases hz : z = 0
      · exact ⟨hx, hy, hz⟩
      · simp [hx, hy, hz, firE] at h
    · simp [hx, hy, firE] at h
  · simp [hx, firE] at h
theorem rng_0 {n a b : Int} (h : rngE n a b = 0) : a ≤ n ∧ n ≤ b := by
  rcases inB_cases n a b with h1 | h1
  · exact inB_iff.1 h1
  · rw [rngE_f h1] at h; cases h
noncomputable def keptV (T : List Cm) (L : List Ld) (p f : Int) : Int := if keptE T L p f = 0 then keptR p f T L 2 else 0
theorem KeptAt_x (T : List Cm) (L : List Ld) (A B : Option Addr) (cap cap' : Nat) (p f k g : Int) (w : World) (hl : T.length ≤ 1000000) (hl' : L.length ≤ 1000000) (hk : Hid (keptV T L p f = k)) (hg : Hid (keptE T L p f = g)) (HT : Hid (SlCm w A T)) (HL : Hid (SlLd w B L)) :
    Calls Try.prog 28 #[.slice A T.length cap, .slice B L.length cap', .agg #[.int .i64 p, .int .i64 f]] w fun e w' => e = .returned (.tuple #[.int .i64 k, .int .i64 g]) ∧ Below w.heap.size w w' := by
  rcases ez2 g with ⟨hz0, hzb⟩ | ⟨hz0, hzb⟩
  · have h0 := hz0.out
    subst h0
    have hg' := hg.out
    unfold keptE at hg'
    obtain ⟨h1, h2, h3⟩ := firE_3 hg'
    obtain ⟨p0, p1⟩ := rng_0 h2
    obtain ⟨f0, f1⟩ := rng_0 h3
    have hkk : Hid (keptR p f T L 2 = k) := by
      have := hk.out
      unfold keptV at this
      rw [if_pos hg.out] at this
      exact this
    exact KeptAt_good T L A B cap cap' p f k w hl hl' hg (Lib.hid (fit_of h1)) p0 p1 f0 f1 hkk HT HL
  · have hkk : k = 0 := by
      have := hk.out
      unfold keptV at this
      rw [if_neg (by rw [hg.out]; exact hz0.out)] at this
      exact this.symm
    subst hkk
    exact KeptAt_bad T L A B cap cap' p f g w hl hl' hg hzb HT HL
theorem keptE_q {T : List Cm} {L : List Ld} {p f q : Int} (hq : loadsE T L = q) (h : q ≠ 0) : keptE T L p f = q := by
  unfold keptE firE
  rw [hq, if_neg h]
theorem keptE_2 {T : List Cm} {L : List Ld} {p f : Int} (hq : loadsE T L = 0) (h : inB p 400 31100 = false ∨ inB f 0 1000 = false) : keptE T L p f = 2 := by
  unfold keptE
  rw [hq]
  rcases h with h | h
  · rw [rngE_f h]; rfl
  · rw [rngE_f h]
    rcases inB_cases p 400 31100 with h1 | h1
    · rw [rngE_t h1]; rfl
    · rw [rngE_f h1]; rfl
theorem keptE_0 {T : List Cm} {L : List Ld} {p f : Int} (hq : loadsE T L = 0) (h1 : inB p 400 31100 = true) (h2 : inB f 0 1000 = true) : keptE T L p f = 0 := by
  unfold keptE
  rw [hq, rngE_t h1, rngE_t h2]
  rfl
theorem cmpE_02 (n h b s : Int) : cmpE n h b s = 0 ∨ cmpE n h b s = 2 := by
  rcases inB_cases n 1 100000 with h1 | h1
  · rcases inB_cases h 1 100000 with h2 | h2
    · rcases inB_cases b 0 10000 with h3 | h3
      · rcases inB_cases s 1000 10000 with h4 | h4
        · exact Or.inl (cmpE_at h1 h2 h3 h4)
        · exact Or.inr (cmpE_4 h1 h2 h3 h4)
      · exact Or.inr (cmpE_3 h1 h2 h3)
    · exact Or.inr (cmpE_2 h1 h2)
  · exact Or.inr (cmpE_1 h1)
theorem limE3_2 {n h b s p f : Int} (hh : cmpE n h b s = 2 ∨ inB p 400 31100 = false ∨ inB f 0 1000 = false) : limE3 n h b s p f = 2 := by
  unfold limE3
  rcases cmpE_02 n h b s with h1 | h1
  · rw [h1]
    rcases hh with h2 | h2 | h2
    · rw [h1] at h2; cases h2
    · rw [rngE_f h2]; rfl
    · rw [rngE_f h2]
      rcases inB_cases p 400 31100 with h3 | h3
      · rw [rngE_t h3]; rfl
      · rw [rngE_f h3]; rfl
  · rw [h1]; rfl
end Go.Proofs.Ytbdiljbjddppcaa
