/- What the specifications of lists of parts, of their sums and of the nearest gas return. -/
import Derived.Test.YtlhogcbodgimdaaDoorRefA
import Derived.Test.YtlhogcbodgimdaaDoorNear
import Derived.Test.YtlhogcbodgimdaaDoorCopyP
import Derived.Test.YtlhogcbodgimdaaDoorNums
import Derived.Outline
namespace Go.Proofs.YtlhogcbodgimdaaDoor
open Go.ChangeShapes Go.WideShapes Go.ChangeAt Go.RowKit
set_option linter.unusedVariables false
set_option linter.unusedSimpArgs false
attribute [local go_sem ↓] Go.wp_at_zero Go.wp_at_succ

theorem sumA_zero {P : List Part} (hn : noneB P = true) : sumF pA P = 0 := by
  induction P with
  | nil => rfl
  | cons p r ih =>
    unfold noneB at hn
    rw [List.all_cons, Bool.and_eq_true] at hn
    have h1 : p.a = 0 := by simpa using hn.1
    have h2 := ih hn.2
    show (List.map pA (p :: r)).sum = 0
    rw [List.map_cons, List.sum_cons]
    show p.a + sumF pA r = 0
    omega
theorem refCheckGas_p (o h c : Int) (w : World) (hc : Hid (gasE o h = c)) :
    Calls Tryd.prog 20 #[.agg #[.int .i64 o, .int .i64 h]] w fun e w' => e = .returned (.int .i64 c) ∧ w.alloc (.cells #[.int .i64 o, .int .i64 h] 35) = w' := by
  have := refCheckGas_any o h w
  rw [hc.out] at this
  exact this
theorem right_take {P : List Part} {k : Nat} (hk : k ≤ P.length) (hz : ∀ j, (hj : j < k) → (hj' : j < P.length) → partE P[j] = 0) : ∀ p ∈ P.take k, p.Right := by
  refine partsE1_mem (partsE1_z fun j hj => ?_)
  rw [List.length_take] at hj
  rw [List.getElem_take]
  exact hz j (by omega) (by omega)
theorem sumA_take {P : List Part} {k : Nat} (hl : P.length ≤ 1000) (hk : k ≤ P.length) (hz : ∀ j, (hj : j < k) → (hj' : j < P.length) → partE P[j] = 0) : 0 ≤ sumF pA (P.take k) ∧ sumF pA (P.take k) ≤ 1000000000000 := by
  have hR := right_take hk hz
  obtain ⟨h1, h2⟩ := sumF_bd pA 1000000000 (by omega) (P.take k) fun p hp => ⟨(hR p hp).a0, (hR p hp).a1⟩
  rw [List.length_take] at h2
  exact ⟨h1, by omega⟩
set_option maxHeartbeats 1000000 in
theorem refCheckParts_any (P : List Part) (A : Option Addr) (cap : Nat) (w : World) (hl : P.length ≤ 1000) (hS : PSl w A P) :
    Calls Tryd.prog 7 #[.slice A P.length cap] w fun e w' => e = .returned (.int .i64 (checkPartsE P)) ∧ Below w.heap.size w w' := by
  by_cases h12 : 12 < P.length
  · have he : Hid (checkPartsE P = 8) := if_pos h12
    clear hS
    go_enter Tryd.func7, Tryd.ntmps7
    go_wp2
    go_ret
    exact ⟨ret_int he.out.symm, (by (repeat (first | (with_reducible refine Below.drew ?_) | (with_reducible refine below_drewN ?_ _) | (with_reducible refine Below.alloc ?_ (by first | omega | (simp; done) | (simp; omega) | (simp at *; omega)) _) | (with_reducible refine Below.setCell ?_ (by first | omega | (simp; done) | (simp; omega) | (simp at *; omega)) _) | (with_reducible exact Below.refl _ _) | (with_reducible assumption) | (with_reducible refine Below.trans ?_ (Below.mono (by assumption) (by first | omega | (simp; done) | (simp; omega) | (simp at *; omega)))))))⟩
  · have he : Hid (checkPartsE P = if partsE1 P = 0 then (if noneB P = true then 11 else 0) else partsE1 P) := if_neg h12
    rcases hS with rfl | ⟨b, off, rfl, hlt, hP⟩
    · have hr : Hid (checkPartsE [] = 11) := by show _ = _; decide
      clear he
      simp only [List.length_nil]
      go_enter Tryd.func7, Tryd.ntmps7
      go_wp2
      go_loop [3, 4] (fun s i => s = .int .i64 0 ∧ i = .int .i64 0) (fun s i => (1 - intOf i).toNat)
      case atStart => exact ⟨rfl, rfl⟩
      case round =>
        obtain ⟨rfl, rfl⟩ := hrel
        go_wp2
        go_ret
        exact ⟨ret_int hr.out.symm, (by (repeat (first | (with_reducible refine Below.drew ?_) | (with_reducible refine below_drewN ?_ _) | (with_reducible refine Below.alloc ?_ (by first | omega | (simp; done) | (simp; omega) | (simp at *; omega)) _) | (with_reducible refine Below.setCell ?_ (by first | omega | (simp; done) | (simp; omega) | (simp at *; omega)) _) | (with_reducible exact Below.refl _ _) | (with_reducible assumption) | (with_reducible refine Below.trans ?_ (Below.mono (by assumption) (by first | omega | (simp; done) | (simp; omega) | (simp at *; omega)))))))⟩
    · have HP : Hid (PartsAt w b off P) := hP
      clear hP
      go_enter Tryd.func7, Tryd.ntmps7
      go_wp2
      go_loopw [3, 4] (fun s i wr => ∃ k : Nat, k ≤ P.length ∧ i = .int .i64 k ∧ s = .int .i64 (sumF pA (P.take k)) ∧ Hid (∀ j, (hj : j < k) → (hj' : j < P.length) → partE P[j] = 0) ∧ Below w.heap.size w wr) (fun _ i _ => P.length - (intOf i).toNat)
      case atStart => exact ⟨0, by omega, rfl, by simp [sumF], fun j hj => by omega, Below.refl _ _⟩
      case round =>
        obtain ⟨k, hk, rfl, rfl, hz, hB⟩ := hrel
        have hsz := hB.size
        have nb : wr.heap.size ≠ b := by omega
        have nb2 : b < wr.heap.size := by omega
        obtain ⟨s0, s1⟩ := sumA_take hl hk hz.out
        by_cases hkl : k < P.length
        · obtain ⟨c0, c1, c2⟩ := HP.out.below hB hlt k hkl
          have hs := Lib.hid (sumF_snoc pA hkl)
          obtain ⟨po, ho⟩ : ∃ x, Hid (P[k].o = x) := ⟨P[k].o, rfl⟩
          obtain ⟨ph, hh⟩ : ∃ x, Hid (P[k].h = x) := ⟨P[k].h, rfl⟩
          obtain ⟨pa, ha⟩ : ∃ x, Hid (P[k].a = x) := ⟨P[k].a, rfl⟩
          obtain ⟨t, ht⟩ : ∃ x, Hid (sumF pA (P.take k) = x) := ⟨_, rfl⟩
          rw [ho.out] at c0
          rw [hh.out] at c1
          rw [ha.out] at c2
          rw [ht.out] at s0 s1
          rw [ht.out]
          have hpe : Hid (partE P[k] = firE [gasE po ph, rngE pa 0 1000000000]) := by unfold partE Hid; rw [ho.out, hh.out, ha.out]
          have hs2 : Hid (sumF pA (P.take (k + 1)) = t + pa) := by
            have := hs.out
            rw [ht.out] at this
            show _ = _
            rw [this]; show t + P[k].a = _; rw [ha.out]
          clear hs
          rcases ez (gasE po ph) with ⟨hg, hgb⟩ | ⟨hg, hgb⟩
          · have hg0 : Hid (gasE po ph = 0) := hg
            cases hw : inB pa 0 1000000000
            · have hr : Hid (checkPartsE P = 2) := by
                have h0 : firE [gasE po ph, rngE pa 0 1000000000] = 2 := by rw [hg0.out]; unfold rngE; rw [hw]; rfl
                have h1 : partE P[k] ≠ 0 := by rw [hpe.out, h0]; decide
                have h2 := partsE1_at hkl (fun j hj => hz.out j hj (by omega)) h1
                have := he.out
                rw [h2, if_neg h1, hpe.out, h0] at this
                exact this
              have HW : Hid (inB pa 0 1000000000 = false) := hw
              clear he hz hw hgb
              go_wp2_with (first | (go_at_call 20; ((with_reducible refine (refCheckGas_p _ _ 0 _ hg0).mono ?_)); rintro e w' ⟨rfl, rfl⟩) | (go_at_call 12; ((with_reducible refine (baseWithin_b _ _ _ false _ HW).mono ?_)); rintro e w' ⟨rfl, rfl⟩))
              go_ret
              exact ⟨ret_int hr.out.symm, (by (repeat (first | (with_reducible refine Below.drew ?_) | (with_reducible refine below_drewN ?_ _) | (with_reducible refine Below.alloc ?_ (by first | omega | (simp; done) | (simp; omega) | (simp at *; omega)) _) | (with_reducible refine Below.setCell ?_ (by first | omega | (simp; done) | (simp; omega) | (simp at *; omega)) _) | (with_reducible exact Below.refl _ _) | (with_reducible assumption) | (with_reducible refine Below.trans ?_ (Below.mono (by assumption) (by first | omega | (simp; done) | (simp; omega) | (simp at *; omega)))))))⟩
            · have h0 : firE [gasE po ph, rngE pa 0 1000000000] = 0 := by rw [hg0.out]; unfold rngE; rw [hw]; rfl
              have hz2 : Hid (∀ j, (hj : j < k + 1) → (hj' : j < P.length) → partE P[j] = 0) := fun j hj hj' => by
                by_cases e : j = k
                · subst e; rw [hpe.out]; exact h0
                · exact hz.out j (by omega) hj'
              have HW : Hid (inB pa 0 1000000000 = true) := hw
              obtain ⟨p0, p1⟩ := inB_iff.1 hw
              have e1 : IntKind.i64.wrap (t + pa) = t + pa := IntWalk.i64_in _ (by omega)
              clear he hz hw hgb h0
              go_wp2_with (first | (go_at_call 20; ((with_reducible refine (refCheckGas_p _ _ 0 _ hg0).mono ?_)); rintro e w' ⟨rfl, rfl⟩) | (go_at_call 12; ((with_reducible refine (baseWithin_b _ _ _ true _ HW).mono ?_)); rintro e w' ⟨rfl, rfl⟩))
              go_roundw
              case rel => exact ⟨k + 1, by omega, by go_num, by rw [hs2.out], hz2, (by (repeat (first | (with_reducible refine Below.drew ?_) | (with_reducible refine below_drewN ?_ _) | (with_reducible refine Below.alloc ?_ (by first | omega | (simp; done) | (simp; omega) | (simp at *; omega)) _) | (with_reducible refine Below.setCell ?_ (by first | omega | (simp; done) | (simp; omega) | (simp at *; omega)) _) | (with_reducible exact Below.refl _ _) | (with_reducible assumption) | (with_reducible refine Below.trans ?_ (Below.mono (by assumption) (by first | omega | (simp; done) | (simp; omega) | (simp at *; omega)))))))⟩
              case measure => simp [intOf]; omega
          · have hr : Hid (checkPartsE P = gasE po ph) := by
              have h0 : firE [gasE po ph, rngE pa 0 1000000000] = gasE po ph := by simp only [firE]; rw [if_neg hg.out]
              have h1 : partE P[k] ≠ 0 := by rw [hpe.out, h0]; exact hg.out
              have h2 := partsE1_at hkl (fun j hj => hz.out j hj (by omega)) h1
              have := he.out
              rw [h2, if_neg h1, hpe.out, h0] at this
              exact this
            clear he hz
            go_wp2_with (first | (go_at_call 20; ((with_reducible refine (refCheckGas_any _ _ _).mono ?_)); rintro e w' ⟨rfl, rfl⟩))
            go_ret
            exact ⟨ret_int hr.out.symm, (by (repeat (first | (with_reducible refine Below.drew ?_) | (with_reducible refine below_drewN ?_ _) | (with_reducible refine Below.alloc ?_ (by first | omega | (simp; done) | (simp; omega) | (simp at *; omega)) _) | (with_reducible refine Below.setCell ?_ (by first | omega | (simp; done) | (simp; omega) | (simp at *; omega)) _) | (with_reducible exact Below.refl _ _) | (with_reducible assumption) | (with_reducible refine Below.trans ?_ (Below.mono (by assumption) (by first | omega | (simp; done) | (simp; omega) | (simp at *; omega)))))))⟩
        · have hkk : k = P.length := by omega
          have h1 : partsE1 P = 0 := partsE1_z fun j hj => hz.out j (by omega) hj
          have h2 : sumF pA (P.take k) = sumF pA P := by rw [hkk, List.take_length]
          have hR := partsE1_mem h1
          have h3 := he.out
          rw [if_pos h1] at h3
          rw [h2]
          cases hn : noneB P
          · have h4 := sumA_pos hR hn
            obtain ⟨t, ht⟩ : ∃ x, Hid (sumF pA P = x) := ⟨_, rfl⟩
            rw [ht.out] at h4
            rw [ht.out]
            rw [hn] at h3
            have hr : Hid (checkPartsE P = 0) := h3
            have h5 : ¬ t = 0 := by omega
            have h6 : (t == 0) = false := by simpa using h5
            clear h1 h2 h3 hR hz he hkk hn
            go_wp2
            go_ret
            exact ⟨ret_int hr.out.symm, (by (repeat (first | (with_reducible refine Below.drew ?_) | (with_reducible refine below_drewN ?_ _) | (with_reducible refine Below.alloc ?_ (by first | omega | (simp; done) | (simp; omega) | (simp at *; omega)) _) | (with_reducible refine Below.setCell ?_ (by first | omega | (simp; done) | (simp; omega) | (simp at *; omega)) _) | (with_reducible exact Below.refl _ _) | (with_reducible assumption) | (with_reducible refine Below.trans ?_ (Below.mono (by assumption) (by first | omega | (simp; done) | (simp; omega) | (simp at *; omega)))))))⟩
          · have h4 := sumA_zero hn
            rw [h4]
            rw [hn] at h3
            have hr : Hid (checkPartsE P = 11) := h3
            clear h1 h2 h3 hR hz he hkk hn
            go_wp2
            go_ret
            exact ⟨ret_int hr.out.symm, (by (repeat (first | (with_reducible refine Below.drew ?_) | (with_reducible refine below_drewN ?_ _) | (with_reducible refine Below.alloc ?_ (by first | omega | (simp; done) | (simp; omega) | (simp at *; omega)) _) | (with_reducible refine Below.setCell ?_ (by first | omega | (simp; done) | (simp; omega) | (simp at *; omega)) _) | (with_reducible exact Below.refl _ _) | (with_reducible assumption) | (with_reducible refine Below.trans ?_ (Below.mono (by assumption) (by first | omega | (simp; done) | (simp; omega) | (simp at *; omega)))))))⟩
set_option maxHeartbeats 1000000 in
theorem refSums_any (P : List Part) (b off cap : Nat) (w : World) (hl : P.length ≤ 12) (hlt : b < w.heap.size) (hP : PartsAt w b off P) (hR : ∀ p ∈ P, p.Right) :
    Calls Tryd.prog 28 #[.slice (some ⟨b, off, none⟩) P.length cap] w fun e w' => e = .returned (.tuple #[.int .i64 (sumF pA P), .int .i64 (sumF pO P), .int .i64 (sumF pH P)]) ∧ Below w.heap.size w w' := by
  have HP : Hid (PartsAt w b off P) := hP
  have HR : Hid (∀ p ∈ P, p.Right) := hR
  clear hP hR
  go_enter Tryd.func28, Tryd.ntmps28
  go_wp2
  go_loopw [5, 6, 7, 8] (fun x y z i wr => ∃ k : Nat, k ≤ P.length ∧ i = .int .i64 k ∧ x = .int .i64 (sumF pA (P.take k)) ∧ y = .int .i64 (sumF pO (P.take k)) ∧ z = .int .i64 (sumF pH (P.take k)) ∧ Below w.heap.size w wr) (fun _ _ _ i _ => P.length - (intOf i).toNat)
  case atStart => exact ⟨0, by omega, rfl, by simp [sumF], by simp [sumF], by simp [sumF], Below.refl _ _⟩
  case round =>
    obtain ⟨k, hk, rfl, rfl, rfl, rfl, hB⟩ := hrel
    have hsz := hB.size
    by_cases hkl : k < P.length
    · obtain ⟨c0, c1, c2⟩ := HP.out.below hB hlt k hkl
      have hr := HR.out P[k] (List.getElem_mem hkl)
      have i0 := Lib.hid (sumF_snoc pO hkl)
      have i1 := Lib.hid (sumF_snoc pH hkl)
      have i3 := Lib.hid (sumF_snoc pA hkl)
      obtain ⟨r1, r2, r3, r4, r5, r6, r7⟩ := hr
      obtain ⟨o, ho⟩ : ∃ x, Hid (P[k].o = x) := ⟨P[k].o, rfl⟩
      obtain ⟨h, hh⟩ : ∃ x, Hid (P[k].h = x) := ⟨P[k].h, rfl⟩
      obtain ⟨a, ha⟩ : ∃ x, Hid (P[k].a = x) := ⟨P[k].a, rfl⟩
      rw [ho.out] at c0 r1 r2 r5
      rw [hh.out] at c1 r3 r4 r5
      rw [ha.out] at c2 r6 r7
      obtain ⟨so, eo⟩ : ∃ x, Hid (sumF pO (P.take k) = x) := ⟨sumF pO (P.take k), rfl⟩
      obtain ⟨sh, eh⟩ : ∃ x, Hid (sumF pH (P.take k) = x) := ⟨sumF pH (P.take k), rfl⟩
      obtain ⟨sa, ea⟩ : ∃ x, Hid (sumF pA (P.take k) = x) := ⟨sumF pA (P.take k), rfl⟩
      have bo := take_bd pO 1000000000000 (by omega) P hl (fun p hp => by have := HR.out p hp; exact mul_bd this.a0 this.a1 this.o0 this.o1) k
      have bh := take_bd pH 1000000000000 (by omega) P hl (fun p hp => by have := HR.out p hp; exact mul_bd this.a0 this.a1 this.h0 this.h1) k
      have ba := take_bd pA 1000000000 (by omega) P hl (fun p hp => by have := HR.out p hp; exact ⟨this.a0, this.a1⟩) k
      rw [eo.out] at bo
      rw [eh.out] at bh
      rw [ea.out] at ba
      rw [eo.out, eh.out, ea.out]
      obtain ⟨bo0, bo1⟩ := bo
      obtain ⟨bh0, bh1⟩ := bh
      obtain ⟨ba0, ba1⟩ := ba
      obtain ⟨xo, hxo⟩ : ∃ x, Hid (a * o = x) := ⟨a * o, rfl⟩
      obtain ⟨xh, hxh⟩ : ∃ x, Hid (a * h = x) := ⟨a * h, rfl⟩
      have m1 := mul_bd r6 r7 r1 r2
      have m2 := mul_bd r6 r7 r3 r4
      rw [hxo.out] at m1
      rw [hxh.out] at m2
      have q1 : IntKind.i64.wrap (a * o) = xo := by rw [hxo.out]; exact IntWalk.i64_in _ (by omega)
      have q2 : IntKind.i64.wrap (a * h) = xh := by rw [hxh.out]; exact IntWalk.i64_in _ (by omega)
      obtain ⟨m10, m11⟩ := m1
      obtain ⟨m20, m21⟩ := m2
      have w1 : IntKind.i64.wrap (so + xo) = so + xo := IntWalk.i64_in _ (by omega)
      have w2 : IntKind.i64.wrap (sh + xh) = sh + xh := IntWalk.i64_in _ (by omega)
      have w4 : IntKind.i64.wrap (sa + a) = sa + a := IntWalk.i64_in _ (by omega)
      have j0 : Hid (sumF pO (P.take (k + 1)) = so + xo) := by show _ = _; rw [i0.out, eo.out]; show so + P[k].a * P[k].o = _; rw [ha.out, ho.out, hxo.out]
      have j1 : Hid (sumF pH (P.take (k + 1)) = sh + xh) := by show _ = _; rw [i1.out, eh.out]; show sh + P[k].a * P[k].h = _; rw [ha.out, hh.out, hxh.out]
      have j3 : Hid (sumF pA (P.take (k + 1)) = sa + a) := by show _ = _; rw [i3.out, ea.out]; show sa + P[k].a = _; rw [ha.out]
      clear i0 i1 i3
      go_wp2
      go_region_held3 (fun w' => w'.cell? ⟨b, off + k * 3, none⟩ = some (.int .i64 o) ∧ w'.cell? ⟨b, off + k * 3 + 1, none⟩ = some (.int .i64 h) ∧ w'.cell? ⟨b, off + k * 3 + 2, none⟩ = some (.int .i64 a)) (exact ⟨by simpa [go_sem] using c0, by simpa [go_sem] using c1, by simpa [go_sem] using c2⟩) (fail)
      go_wp2
      go_roundw
      case rel => exact ⟨k + 1, by omega, by go_num, by rw [j3.out], by rw [j0.out], by rw [j1.out], (by (repeat (first | (with_reducible refine Below.drew ?_) | (with_reducible refine below_drewN ?_ _) | (with_reducible refine Below.alloc ?_ (by first | omega | (simp; done) | (simp; omega) | (simp at *; omega)) _) | (with_reducible refine Below.setCell ?_ (by first | omega | (simp; done) | (simp; omega) | (simp at *; omega)) _) | (with_reducible exact Below.refl _ _) | (with_reducible assumption) | (with_reducible refine Below.trans ?_ (Below.mono (by assumption) (by first | omega | (simp; done) | (simp; omega) | (simp at *; omega)))))))⟩
      case measure => simp [intOf]; omega
    · have hkk : k = P.length := by omega
      have t0 : sumF pO (P.take k) = sumF pO P := by rw [hkk, List.take_length]
      have t1 : sumF pH (P.take k) = sumF pH P := by rw [hkk, List.take_length]
      have t2 : sumF pA (P.take k) = sumF pA P := by rw [hkk, List.take_length]
      rw [t0, t1, t2]
      clear hkk t0 t1 t2
      go_wp2
      refine bodyPost_ret (v := .tuple #[.int .i64 (sumF pA P), .int .i64 (sumF pO P), .int .i64 (sumF pH P)]) (by simp [results, Tryd.results28, go_sem, *]) rfl ⟨rfl, (by (repeat (first | (with_reducible refine Below.drew ?_) | (with_reducible refine below_drewN ?_ _) | (with_reducible refine Below.alloc ?_ (by first | omega | (simp; done) | (simp; omega) | (simp at *; omega)) _) | (with_reducible refine Below.setCell ?_ (by first | omega | (simp; done) | (simp; omega) | (simp at *; omega)) _) | (with_reducible exact Below.refl _ _) | (with_reducible assumption) | (with_reducible refine Below.trans ?_ (Below.mono (by assumption) (by first | omega | (simp; done) | (simp; omega) | (simp at *; omega)))))))⟩
end Go.Proofs.YtlhogcbodgimdaaDoor
