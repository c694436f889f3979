/- Behind a stay a load lies between what it was and what is breathed; a longer stay does not bring it back. -/
import Derived.Test.YtfaodlcfjhnhbaaTTele
import Derived.Outline
namespace Go.Proofs.Ytfaodlcfjhnhbaa
open Go.ChangeShapes Go.WideShapes Go.ChangeAt Go.RowKit
set_option linter.unusedVariables false
set_option linter.unusedSimpArgs false
theorem ap_between {l p x y : Int} (x0 : 0 ≤ x) (x1 : x ≤ 1000000000) (y0 : 0 ≤ y) (y1 : y ≤ 1000000000) : (min l p ≤ apL l p x y ∧ apL l p x y ≤ max l p) ∧ min l p ≤ apH l p x y ∧ apH l p x y ≤ max l p := by
  unfold apL apH
  by_cases k : p ≤ l
  · rw [if_pos k, if_pos k]
    have a := shLo_bd2 (n := l - p) (by omega) x0 x1
    have b := shHi_bd2 (n := l - p) (by omega) y0 y1
    omega
  · rw [if_neg k, if_neg k]
    have a := shLo_bd2 (n := p - l) (by omega) x0 x1
    have b := shHi_bd2 (n := p - l) (by omega) y0 y1
    omega
/-- Products of decays of longer steps are not greater. -/
theorem pr_le (s t : Nat → Nat) (h M k : Nat) (hh : 0 < h) (hst : sumS s k ≤ sumS t k) : prL t h M k ≤ prH s h M k := by
  have a := prL_pow t h M hh k
  have b := prH_pow s h M hh k
  have c : prH s h M k ^ h * 2 ^ sumS s k ≤ prH s h M k ^ h * 2 ^ sumS t k := Nat.mul_le_mul_left _ (Nat.pow_le_pow_right (by omega) hst)
  exact pow_down (n := h) (by omega) (Nat.le_of_mul_le_mul_right (c := 2 ^ sumS t k) (Nat.le_trans a (Nat.le_trans b c)) (Nat.two_pow_pos _))
theorem le_of_w {x y : Int} {k : Nat} (h : x * ((1000000000 ^ k : Nat) : Int) ≤ y * ((1000000000 ^ k : Nat) : Int)) : x ≤ y := Int.le_of_mul_le_mul_right h (w_pos k)
theorem far_ge (s t : Nat → Nat) (h M : Nat) (hh : 0 < h) (p a : Int) (u l : Nat → Int) (k : Nat) (hau : a ≤ u 0) (hla : l 0 ≤ a) (hst : sumS s k ≤ sumS t k) (hpa : p ≤ a)
    (hu : ∀ i, i < k → u (i + 1) = apH (u i) p (decL (s i) h M) (decH (s i) h M)) (hl : ∀ i, i < k → l (i + 1) = apL (l i) p (decL (t i) h M) (decH (t i) h M)) : l k ≤ u k := by
  have h1 := up_ge s h M hh p a (fun _ => p) u hpa hau k (fun i hi => ⟨Int.le_refl _, hu i hi⟩)
  have hneg : ∀ i, i < k → -p ≤ (fun _ : Nat => -p) i ∧ (fun i => -l i) (i + 1) = apH ((fun i => -l i) i) ((fun _ : Nat => -p) i) (decL (t i) h M) (decH (t i) h M) := fun i hi => by
    refine ⟨Int.le_refl _, ?_⟩
    show -l (i + 1) = apH (-l i) (-p) _ _
    rw [apH_turn, hl i hi]
  by_cases he : a = p
  · have h2 := up_ge t h M hh (-p) (-a) (fun _ => -p) (fun i => -l i) (by omega) (by show -a ≤ -l 0; omega) k hneg
    subst he
    rw [show a - a = 0 by omega, Int.zero_mul] at h1
    rw [show -a - -a = 0 by omega, Int.zero_mul] at h2
    have k1 : a ≤ u k := by
      have := le_of_w (k := k) (x := 0) (y := u k - a) (by rw [Int.zero_mul]; exact h1)
      omega
    have k2 : l k ≤ a := by
      have := le_of_w (k := k) (x := 0) (y := -l k - -a) (by rw [Int.zero_mul]; exact h2)
      omega
    omega
  · have h2 := up_lt t h M hh (-p) (-a) (fun _ => -p) (fun i => -l i) (by omega) (by show -a ≤ -l 0; omega) k hneg
    have h3 : (-p - -l k) * ((1000000000 ^ k : Nat) : Int) ≤ (-p - -a) * (prL t h M k : Int) := h2
    rw [show -p - -l k = l k - p by omega, show -p - -a = a - p by omega] at h3
    have h4 : (a - p) * (prL t h M k : Int) ≤ (a - p) * (prH s h M k : Int) := Int.mul_le_mul_of_nonneg_left (Int.ofNat_le.2 (pr_le s t h M k hh hst)) (by omega)
    have := le_of_w (k := k) (x := l k - p) (y := u k - p) (Int.le_trans h3 (Int.le_trans h4 h1))
    omega
theorem far_lt (s t : Nat → Nat) (h M : Nat) (hh : 0 < h) (p a : Int) (l u : Nat → Int) (k : Nat) (hau : a ≤ u 0) (hla : l 0 ≤ a) (hst : sumS s k ≤ sumS t k) (hpa : a ≤ p)
    (hl : ∀ i, i < k → l (i + 1) = apL (l i) p (decL (s i) h M) (decH (s i) h M)) (hu : ∀ i, i < k → u (i + 1) = apH (u i) p (decL (t i) h M) (decH (t i) h M)) : l k ≤ u k := by
  have := far_ge s t h M hh (-p) (-a) (fun i => -l i) (fun i => -u i) k (by show -a ≤ -l 0; omega) (by show -u 0 ≤ -a; omega) hst (by omega) (fun i hi => by
    show -l (i + 1) = apH (-l i) (-p) _ _
    rw [apH_turn, hl i hi]) (fun i hi => by
    show -u (i + 1) = apL (-u i) (-p) _ _
    rw [apL_turn, hu i hi])
  have h2 : -u k ≤ -l k := this
  omega
theorem ar_stay {f s : Int} {n i : Nat} (s0 : 0 ≤ s) : arLo f f s n i = f ∧ arHi f f s n i = f := by
  have a : ∀ j : Int, mkLo f f s n j = f ∧ mkHi f f s n j = f := fun j => by
    unfold mkLo mkHi
    by_cases hs : s = 0
    · rw [if_pos hs, if_pos hs]; exact ⟨rfl, rfl⟩
    · rw [if_neg hs, if_neg hs]
      have e : mkP f f s (mkS s n j) = f * s := by
        unfold mkP
        rw [← Int.mul_add]; congr 1; omega
      rw [e]
      refine ⟨Int.mul_ediv_cancel f hs, ?_⟩
      rw [show f * s + s - 1 = (s - 1) + f * s by omega, Int.add_mul_ediv_right _ _ hs, Int.ediv_eq_zero_of_lt (by omega) (by omega)]
      omega
  unfold arLo arHi
  rw [(a i).1, (a _).1, (a i).2, (a _).2]
  omega
theorem stK_two {s : Int} {n : Nat} : stK (2 * s) n = stK s n := by
  unfold stK
  by_cases h : s = 0
  · rw [if_pos h, if_pos (by omega)]
  · rw [if_neg h, if_neg (by omega)]
theorem ldR_at' {f t s o h : Int} {n : Nat} {T : List Cm} {P : List Ld} {k : Nat} (hk : k < T.length) (s0 : 0 ≤ s) (i : Nat) : (ldR f f s n o h T P (i + 1)).getD k default = stepR (mkS s n ((i + 1 : Nat) : Int) - mkS s n i) (8 + 2 * n) T (ldR f f s n o h T P i) ((1000 - o - h) * (f - 63)) ((1000 - o - h) * (f - 63)) (h * (f - 63)) (h * (f - 63)) k := by
  rw [ldR_at hk i, (ar_stay (f := f) (n := n) (i := i) s0).1, (ar_stay (f := f) (n := n) (i := i) s0).2]
/-- A load of single numbers lies, behind a stay, between what it was and what is breathed. -/
theorem stay_between {f s o h : Int} {n : Nat} {T : List Cm} {P : List Ld} (hT : TbOk T) (hP : P.length = T.length) (s0 : 0 ≤ s) {k : Nat} (hk : k < T.length) (ha : (P.getD k default).a = (P.getD k default).b) (hc : (P.getD k default).c = (P.getD k default).d) : ∀ j,
    ((min (P.getD k default).a ((1000 - o - h) * (f - 63)) ≤ ((ldR f f s n o h T P j).getD k default).a ∧ ((ldR f f s n o h T P j).getD k default).b ≤ max (P.getD k default).a ((1000 - o - h) * (f - 63))) ∧ (((ldR f f s n o h T P j).getD k default).a ≤ max (P.getD k default).a ((1000 - o - h) * (f - 63)) ∧ min (P.getD k default).a ((1000 - o - h) * (f - 63)) ≤ ((ldR f f s n o h T P j).getD k default).b)) ∧
    (min (P.getD k default).c (h * (f - 63)) ≤ ((ldR f f s n o h T P j).getD k default).c ∧ ((ldR f f s n o h T P j).getD k default).d ≤ max (P.getD k default).c (h * (f - 63))) ∧ (((ldR f f s n o h T P j).getD k default).c ≤ max (P.getD k default).c (h * (f - 63)) ∧ min (P.getD k default).c (h * (f - 63)) ≤ ((ldR f f s n o h T P j).getD k default).d)
  | 0 => by
    show ((min _ _ ≤ (P.getD k default).a ∧ (P.getD k default).b ≤ max _ _) ∧ ((P.getD k default).a ≤ _ ∧ _ ≤ (P.getD k default).b)) ∧ (min _ _ ≤ (P.getD k default).c ∧ (P.getD k default).d ≤ max _ _) ∧ ((P.getD k default).c ≤ _ ∧ _ ≤ (P.getD k default).d)
    rw [← ha, ← hc]
    omega
  | j + 1 => by
    have i := stay_between (f := f) (s := s) (o := o) (h := h) (n := n) hT hP s0 hk ha hc j
    obtain ⟨⟨n1, _⟩, n2, _⟩ := hT.2.2 k hk
    have eT : T.getD k default = T[k] := getD_of hk
    have b1 := dec_bd (s := mkS s n ((j + 1 : Nat) : Int) - mkS s n j) (h := T[k].n) (by omega) (8 + 2 * n)
    have b2 := dec_bd (s := mkS s n ((j + 1 : Nat) : Int) - mkS s n j) (h := T[k].h) (by omega) (8 + 2 * n)
    rw [ldR_at' (t := f) hk s0 j]
    unfold stepR decAt
    rw [eT]
    generalize (ldR f f s n o h T P j).getD k default = V at *
    have a1 := ap_between (l := V.a) (p := (1000 - o - h) * (f - 63)) b1.1 b1.2.1 b1.2.2.1 b1.2.2.2
    have a2 := ap_between (l := V.b) (p := (1000 - o - h) * (f - 63)) b1.1 b1.2.1 b1.2.2.1 b1.2.2.2
    have a3 := ap_between (l := V.c) (p := h * (f - 63)) b2.1 b2.2.1 b2.2.2.1 b2.2.2.2
    have a4 := ap_between (l := V.d) (p := h * (f - 63)) b2.1 b2.2.1 b2.2.2.1 b2.2.2.2
    refine ⟨⟨⟨?_, ?_⟩, ?_, ?_⟩, ⟨?_, ?_⟩, ?_, ?_⟩
    · exact Int.le_trans (by omega) a1.1.1
    · exact Int.le_trans a2.2.2 (by omega)
    · exact Int.le_trans a1.1.2 (by omega)
    · exact Int.le_trans (by omega) a2.2.1
    · exact Int.le_trans (by omega) a3.1.1
    · exact Int.le_trans a4.2.2 (by omega)
    · exact Int.le_trans a3.1.2 (by omega)
    · exact Int.le_trans (by omega) a4.2.1
/-- Twice the time never brings a load back beyond the shorter stay. -/
theorem stay_far {f s o h : Int} {n : Nat} {T : List Cm} {P : List Ld} (hT : TbOk T) (hP : P.length = T.length) (s0 : 0 ≤ s) {k : Nat} (hk : k < T.length) (ha : (P.getD k default).a = (P.getD k default).b) :
    ((1000 - o - h) * (f - 63) ≤ (P.getD k default).a → ((ldR f f (2 * s) n o h T P (stK (2 * s) n)).getD k default).a ≤ ((ldR f f s n o h T P (stK s n)).getD k default).b) ∧
    ((P.getD k default).a < (1000 - o - h) * (f - 63) → ((ldR f f s n o h T P (stK s n)).getD k default).a ≤ ((ldR f f (2 * s) n o h T P (stK (2 * s) n)).getD k default).b) := by
  obtain ⟨⟨n1, _⟩, n2, _⟩ := hT.2.2 k hk
  have eT : T.getD k default = T[k] := getD_of hk
  obtain ⟨H, hH⟩ := Int.eq_ofNat_of_zero_le (show 0 ≤ T[k].n by omega)
  have H0 : 0 < H := by omega
  have hm1 : ∀ i, i < stK s n → mkS s n (i : Nat) ≤ mkS s n ((i + 1 : Nat) : Int) := fun i _ => mkS_mono s0
  have hm2 : ∀ i, i < stK s n → mkS (2 * s) n (i : Nat) ≤ mkS (2 * s) n ((i + 1 : Nat) : Int) := fun i _ => mkS_mono (by omega)
  have t1 := sum_tele (fun i => mkS s n (i : Nat)) (stK s n) hm1
  have t2 := sum_tele (fun i => mkS (2 * s) n (i : Nat)) (stK s n) hm2
  have e1 := mkS_K (n := n) s0
  have e2 := mkS_K (n := n) (show 0 ≤ 2 * s by omega)
  rw [stK_two] at e2
  have z1 := mkS_0 s n
  have z2 := mkS_0 (2 * s) n
  have hst : sumS (fun i => (mkS s n ((i + 1 : Nat) : Int) - mkS s n (i : Nat)).toNat) (stK s n) ≤ sumS (fun i => (mkS (2 * s) n ((i + 1 : Nat) : Int) - mkS (2 * s) n (i : Nat)).toNat) (stK s n) := by
    have a : ((sumS (fun i => (mkS s n ((i + 1 : Nat) : Int) - mkS s n (i : Nat)).toNat) (stK s n) : Nat) : Int) = s - 0 := t1.trans (by show mkS s n ((stK s n : Nat) : Int) - mkS s n ((0 : Nat) : Int) = s - 0; rw [e1, z1])
    have b : ((sumS (fun i => (mkS (2 * s) n ((i + 1 : Nat) : Int) - mkS (2 * s) n (i : Nat)).toNat) (stK s n) : Nat) : Int) = 2 * s - 0 := t2.trans (by show mkS (2 * s) n ((stK s n : Nat) : Int) - mkS (2 * s) n ((0 : Nat) : Int) = 2 * s - 0; rw [e2, z2])
    omega
  have c1 : ∀ i, i < stK s n → (((mkS s n ((i + 1 : Nat) : Int) - mkS s n (i : Nat)).toNat : Nat) : Int) = mkS s n ((i + 1 : Nat) : Int) - mkS s n (i : Nat) := fun i hi => Int.toNat_of_nonneg (by have := hm1 i hi; omega)
  have c2 : ∀ i, i < stK s n → (((mkS (2 * s) n ((i + 1 : Nat) : Int) - mkS (2 * s) n (i : Nat)).toNat : Nat) : Int) = mkS (2 * s) n ((i + 1 : Nat) : Int) - mkS (2 * s) n (i : Nat) := fun i hi => Int.toNat_of_nonneg (by have := hm2 i hi; omega)
  have s1b : ∀ i, i < stK s n → ((ldR f f s n o h T P (i + 1)).getD k default).b = apH ((ldR f f s n o h T P i).getD k default).b ((1000 - o - h) * (f - 63)) (decL (((mkS s n ((i + 1 : Nat) : Int) - mkS s n (i : Nat)).toNat : Nat) : Int) H (8 + 2 * n)) (decH (((mkS s n ((i + 1 : Nat) : Int) - mkS s n (i : Nat)).toNat : Nat) : Int) H (8 + 2 * n)) := fun i hi => by
    rw [ldR_at' (t := f) hk s0 i, c1 i hi]; unfold stepR decAt; rw [eT, hH]
  have s1a : ∀ i, i < stK s n → ((ldR f f s n o h T P (i + 1)).getD k default).a = apL ((ldR f f s n o h T P i).getD k default).a ((1000 - o - h) * (f - 63)) (decL (((mkS s n ((i + 1 : Nat) : Int) - mkS s n (i : Nat)).toNat : Nat) : Int) H (8 + 2 * n)) (decH (((mkS s n ((i + 1 : Nat) : Int) - mkS s n (i : Nat)).toNat : Nat) : Int) H (8 + 2 * n)) := fun i hi => by
    rw [ldR_at' (t := f) hk s0 i, c1 i hi]; unfold stepR decAt; rw [eT, hH]
  have s2b : ∀ i, i < stK s n → ((ldR f f (2 * s) n o h T P (i + 1)).getD k default).b = apH ((ldR f f (2 * s) n o h T P i).getD k default).b ((1000 - o - h) * (f - 63)) (decL (((mkS (2 * s) n ((i + 1 : Nat) : Int) - mkS (2 * s) n (i : Nat)).toNat : Nat) : Int) H (8 + 2 * n)) (decH (((mkS (2 * s) n ((i + 1 : Nat) : Int) - mkS (2 * s) n (i : Nat)).toNat : Nat) : Int) H (8 + 2 * n)) := fun i hi => by
    rw [ldR_at' (t := f) hk (by omega) i, c2 i hi]; unfold stepR decAt; rw [eT, hH]
  have s2a : ∀ i, i < stK s n → ((ldR f f (2 * s) n o h T P (i + 1)).getD k default).a = apL ((ldR f f (2 * s) n o h T P i).getD k default).a ((1000 - o - h) * (f - 63)) (decL (((mkS (2 * s) n ((i + 1 : Nat) : Int) - mkS (2 * s) n (i : Nat)).toNat : Nat) : Int) H (8 + 2 * n)) (decH (((mkS (2 * s) n ((i + 1 : Nat) : Int) - mkS (2 * s) n (i : Nat)).toNat : Nat) : Int) H (8 + 2 * n)) := fun i hi => by
    rw [ldR_at' (t := f) hk (by omega) i, c2 i hi]; unfold stepR decAt; rw [eT, hH]
  rw [stK_two]
  refine ⟨fun hpa => ?_, fun hpa => ?_⟩
  · exact far_ge _ _ H (8 + 2 * n) H0 ((1000 - o - h) * (f - 63)) (P.getD k default).a (fun i => ((ldR f f s n o h T P i).getD k default).b) (fun i => ((ldR f f (2 * s) n o h T P i).getD k default).a) (stK s n) (by show _ ≤ (P.getD k default).b; omega) (Int.le_refl _) hst hpa s1b s2a
  · exact far_lt _ _ H (8 + 2 * n) H0 ((1000 - o - h) * (f - 63)) (P.getD k default).a (fun i => ((ldR f f s n o h T P i).getD k default).a) (fun i => ((ldR f f (2 * s) n o h T P i).getD k default).b) (stK s n) (by show _ ≤ (P.getD k default).b; omega) (Int.le_refl _) hst (by omega) s1a s2b
end Go.Proofs.Ytfaodlcfjhnhbaa
