import Derived.Test.YtjkhjjmmkdfjmaaGTVes
import Derived.Outline
namespace Go.Proofs.Ytjkhjjmmkdfjmaa
open Go.ChangeShapes Go.WideShapes Go.ChangeAt Go.RowKit
set_option linter.unusedVariables false
set_option linter.unusedSimpArgs false
attribute [local go_sem ↓] Go.wp_at_zero Go.wp_at_succ
theorem CheckVessels_any (L : List Ve) (A : Option Addr) (cap len : Nat) (E : Int) (w : World) (hlen : Hid (len = L.length)) (hl : len ≤ 1000000) (hsz : Hid (∀ g ∈ L, g.nm.size ≤ 1000000)) (hL : SlRows veV 3 w A L) (hE : Hid (ctV L = E)) :
    Calls Try.prog 18 #[.slice A len cap] w fun e w' => e = .returned (.int .i64 E) ∧ Below w.heap.size w w' := by
  have he := hE.out
  unfold ctV at he
  by_cases h1 : 20 < len
  · have hr : Hid (E = 8) := Lib.hid (by rw [if_pos (by rw [← hlen.out]; exact h1)] at he; exact he.symm)
    have i1 : (20 : Int) < (len : Int) := by omega
    clear he hE hL
    go_enter Try.func18, Try.ntmps18
    go_wp2
    go_ret
    exact ⟨ret_int hr.out.symm, belA⟩
  · rw [if_neg (by rw [← hlen.out]; exact h1)] at he
    have i1 : ¬ (20 : Int) < (len : Int) := by omega
    have HE := Lib.hid he
    have HL := Lib.hid hL
    clear he hE hL
    go_enter Try.func18, Try.ntmps18
    go_wp2_with fail
    refine (named_MixVessel L A cap len E _ hlen hl hsz HL (Lib.hid (by rw [lst_ves]; exact HE.out))).mono ?_
    rintro e x1 ⟨rfl, hb1⟩
    go_wp2
    go_ret
    exact ⟨rfl, belA⟩
theorem baEq {a b : ByteArray} (h : a.data = b.data) : a = b := by
  show ByteArray.mk a.data = ByteArray.mk b.data
  rw [h]
/-- The number of the first vessel with a name, or -1. -/
def fndV (s : ByteArray) : List Ve → Int
  | [] => -1
  | g :: r => if g.nm.data = s.data then 0 else if fndV s r < 0 then -1 else fndV s r + 1
theorem fndV_at {s : ByteArray} {L : List Ve} : ∀ {k : Nat} (hk : k < L.length), L[k].nm = s → (∀ j, (hj : j < k) → (L[j]'(by omega)).nm ≠ s) → fndV s L = k := by
  induction L with
  | nil => intro k hk; simp at hk
  | cons g r ih =>
    intro k hk h1 h2
    unfold fndV
    cases k with
    | zero => rw [if_pos (by simp at h1; rw [h1])]; rfl
    | succ k =>
      have h0 : ¬ g.nm.data = s.data := fun e => h2 0 (by omega) (baEq e)
      have := ih (k := k) (by simpa using hk) (by simpa using h1) (fun j hj => by simpa using h2 (j + 1) (by omega))
      rw [if_neg h0, this, if_neg (by omega)]
      omega
theorem fndV_no {s : ByteArray} {L : List Ve} (h : ∀ g ∈ L, g.nm ≠ s) : fndV s L = -1 := by
  induction L with
  | nil => rfl
  | cons g r ih =>
    unfold fndV
    have h0 : ¬ g.nm.data = s.data := fun e => h g (.head _) (baEq e)
    rw [if_neg h0, ih (fun x hx => h x (.tail _ hx)), if_pos (by omega)]
set_option maxHeartbeats 1000000 in
theorem refFind_any (L : List Ve) (A : Option Addr) (cap n : Nat) (s : ByteArray) (E : Int) (w : World) (hn : Hid (n = L.length)) (hl : n ≤ 1000000) (hL : SlRows veV 3 w A L) (hE : Hid (fndV s L = E)) :
    Calls Try.prog 28 #[.slice A n cap, .string s] w fun e w' => e = .returned (.int .i64 E) ∧ w = w' := by
  have HL := Lib.hid hL
  clear hL
  go_enter Try.func28, Try.ntmps28
  go_wp2
  go_loop [5] (fun i => ∃ k : Nat, k ≤ n ∧ i = .int .i64 k ∧ Hid (∀ j, j < k → (hj : j < L.length) → L[j].nm ≠ s)) (fun i => n - (intOf i).toNat)
  case atStart => exact ⟨0, by omega, rfl, fun j hj => by omega⟩
  case round =>
    obtain ⟨k, hk, rfl, hz⟩ := hrel
    by_cases hkn : k < n
    · have hkl : k < L.length := by have := hn.out; omega
      have kn : (k : Int) < (n : Int) := by omega
      rcases HL.out with hnil | ⟨b, off, rfl, hlt, hL⟩
      · rw [hnil] at hkl; simp at hkl
      · obtain ⟨c0, _, _⟩ := ve_at hL hkl
        obtain ⟨q, q0⟩ : ∃ x, Hid (L[k].nm = x) := ⟨L[k].nm, Lib.hid rfl⟩
        rw [q0.out] at c0
        by_cases he : q = s
        · subst he
          have hr : Hid (E = k) := Lib.hid (by rw [← hE.out]; exact fndV_at hkl q0.out (fun j hj => hz.out j hj _))
          clear hz hE hL
          go_wp2
          go_ret
          exact ⟨ret_int hr.out.symm, rfl⟩
        · have hq := neStr he
          have hz2 : Hid (∀ j, j < k + 1 → (hj : j < L.length) → L[j].nm ≠ s) := Lib.hid fun j hj hjl => by
            by_cases e : j = k
            · subst e; rw [q0.out]; exact he
            · exact hz.out j (by omega) hjl
          clear hz hL he
          go_wp2
          go_round
          case rel => exact ⟨k + 1, by omega, by go_num, hz2⟩
          case measure => simp [intOf]; omega
    · have kn : ¬ (k : Int) < (n : Int) := by omega
      have hr : Hid (E = -1) := Lib.hid (by
        rw [← hE.out]
        refine fndV_no fun g hg => ?_
        obtain ⟨j, hj, rfl⟩ := List.getElem_of_mem hg
        exact hz.out j (by have := hn.out; omega) hj)
      clear hz hE
      go_wp2
      go_ret
      exact ⟨ret_int hr.out.symm, rfl⟩
theorem fndV_in {s : ByteArray} {L : List Ve} : (0 ≤ fndV s L ↔ s ∈ L.map (·.nm)) := by
  constructor
  · intro h
    refine Classical.byContradiction fun hn => ?_
    have := fndV_no (s := s) (L := L) (fun g hg e => hn (List.mem_map.2 ⟨g, hg, e⟩))
    omega
  · intro h
    induction L with
    | nil => simp at h
    | cons g r ih =>
      unfold fndV
      by_cases h0 : g.nm.data = s.data
      · rw [if_pos h0]; omega
      · rw [if_neg h0]
        have h2 : s ∈ r.map (·.nm) := by
          simp only [List.map_cons, List.mem_cons] at h
          rcases h with h | h
          · exact absurd (by rw [h]) h0
          · exact h
        have := ih h2
        rw [if_neg (by omega)]; omega
set_option maxHeartbeats 4000000 in
set_option maxRecDepth 100000 in
theorem refCheckVessels_some (L : List Ve) (b off cap len : Nat) (E : Int) (w : World) (hlen : Hid (len = L.length)) (l0 : len ≤ 20) (hcap : len ≤ cap) (hcm : (cap : Int) ≤ 9223372036854775807) (hsz : Hid (∀ g ∈ L, g.nm.size ≤ 1000000)) (hlt : b < w.heap.size) (hL : RowsAt veV 3 w b off L) (hE : Hid (vesE [] L = E)) :
    Calls Try.prog 19 #[.slice (some ⟨b, off, none⟩) len cap] w fun e w' => e = .returned (.int .i64 E) ∧ Below w.heap.size w w' := by
  have HP := Lib.hid hL
  have g1 : ¬ (20 : Int) < (len : Int) := by omega
  clear hL
  go_enter Try.func19, Try.ntmps19
  go_wp2
  go_loopw [3] (fun i wr => ∃ k : Nat, k ≤ len ∧ i = .int .i64 k ∧ Hid (vesE ((L.take k).map (·.nm)) (L.drop k) = E) ∧ Below w.heap.size w wr) (fun i _ => len - (intOf i).toNat)
  case atStart => exact ⟨0, by omega, rfl, by rw [List.drop_zero]; exact hE, Below.refl _ _⟩
  case round =>
    clear hE
    obtain ⟨k, hk, rfl, hz, hB⟩ := hrel
    have hsw := hB.size
    by_cases hkl : k < len
    · have hkL : k < L.length := by have := hlen.out; omega
      have kn : (k : Int) < (len : Int) := by omega
      have k0 : (0 : Int) ≤ (k : Int) := by omega
      have kc : (k : Int) ≤ (cap : Int) := by omega
      have hrows := HP.out.below hB hlt
      obtain ⟨c0, c1, c2⟩ := ve_at hrows hkL
      have he := hz.out
      rw [vesE_at hkL] at he
      have hs1 := hsz.out L[k] (List.getElem_mem hkL)
      have htk : (L.take k).map (·.nm) ++ [L[k].nm] = (L.take (k + 1)).map (·.nm) := by
        rw [List.take_succ_eq_append_getElem hkL, List.map_append]; rfl
      rw [htk] at he
      have HTL : Hid (k = (L.take k).length) := Lib.hid (by simp; omega)
      obtain ⟨s, q0⟩ : ∃ x, Hid (L[k].nm = x) := ⟨L[k].nm, Lib.hid rfl⟩
      obtain ⟨v, q1⟩ : ∃ x, Hid (L[k].v = x) := ⟨L[k].v, Lib.hid rfl⟩
      obtain ⟨m, q2⟩ : ∃ x, Hid (L[k].m = x) := ⟨L[k].m, Lib.hid rfl⟩
      rw [q0.out] at c0 hs1
      rw [q1.out] at c1
      rw [q2.out] at c2
      have hg : L[k] = ⟨s, v, m⟩ := by rw [← q0.out, ← q1.out, ← q2.out]
      rw [hg] at he
      simp only at he
      have lb : b < wr.heap.size := by omega
      have HSL : Hid (SlRows veV 3 wr.drew (some ⟨b, off, none⟩) (L.take k)) := Lib.hid (Or.inr ⟨b, off, rfl, by simpa using lb, (hrows.below (Below.refl wr.heap.size wr).drew lb).part k⟩)
      clear hrows
      cases hnm : nameB s with
      | false =>
        have hr : Hid (E = 4) := Lib.hid (by rw [hnm, if_neg (by simp)] at he; exact he.symm)
        have HNM : Hid (∀ w, Calls Try.prog 64 #[.string s] w fun e w' => e = .returned (.bool false) ∧ w = w') := Lib.hid fun w => baseIsName_any s false w hs1 (Lib.hid hnm)
        clear he hz hnm hg htk q0 q1 q2
        go_wp2_with ((go_at_call 64; ((with_reducible refine (HNM.out _).mono ?_)); rintro e w' ⟨rfl, rfl⟩))
        go_ret
        exact ⟨ret_int hr.out.symm, hB⟩
      | true =>
        rw [if_pos hnm] at he
        have HNM : Hid (∀ w, Calls Try.prog 64 #[.string s] w fun e w' => e = .returned (.bool true) ∧ w = w') := Lib.hid fun w => baseIsName_any s true w hs1 (Lib.hid hnm)
        obtain ⟨F, hF⟩ : ∃ F, Hid (fndV s (L.take k) = F) := ⟨_, Lib.hid rfl⟩
        have hFin := fndV_in (s := s) (L := L.take k)
        rw [hF.out] at hFin
        by_cases hin : inN s ((L.take k).map (·.nm)) = true
        · have hr : Hid (E = 5) := Lib.hid (by rw [if_pos hin] at he; exact he.symm)
          have F0 : 0 ≤ F := hFin.2 (inN_iff.1 hin)
          clear he hz hnm hin hFin hg htk q0 q1 q2
          go_upto_region 8 with ((go_at_call 64; ((with_reducible refine (HNM.out _).mono ?_)); rintro e w' ⟨rfl, rfl⟩))
          refine wp_region_held_drew (S := (fun w' => w'.cell? ⟨b, off + k * 3, none⟩ = some (.string s))) (by kernel_rfl) (by simp [go_sem, cP, *]) (fun hHeld => ?_)
          refine tkA 0 20 rfl ?_
          refine tkA 1 21 rfl ?_
          refine tkA 2 22 rfl ?_
          refine tkA 3 23 rfl ?_
          refine tkA 4 24 rfl ?_
          refine tkA 5 25 rfl ?_
          refine tkA 6 26 rfl ?_
          refine tkA 7 27 rfl ?_
          refine rdA 8 rfl (fun K hK => ?_)
          go_simp
          refine (refFind_any (L.take k) (some ⟨b, off, none⟩) cap k s F _ HTL (by omega) HSL.out hF).mono ?_
          rintro e wq ⟨rfl, rfl⟩
          go_wp2_with fail
          refine hK.out _ _ (by simp [go_sem, cP, *]) (fun hHeld => ?_)
          clear hK K
          try simp only [Act.put, sA, sB, sC]
          refine tkA 9 29 rfl ?_
          refine wpAnyH_done (by kernel_rfl) ?_ _
          go_wp2
          go_ret
          exact ⟨ret_int hr.out.symm, belA⟩
        · have F0 : ¬ 0 ≤ F := fun h => hin (inN_iff.2 (hFin.1 h))
          rw [if_neg hin] at he
          clear hFin
          rcases inB_cases v 1 1000000 with i1 | i1
          · skip
            rcases inB_cases m 1 400000 with i2 | i2
            · have hz2 : Hid (vesE ((L.take (k + 1)).map (·.nm)) (L.drop (k + 1)) = E) := Lib.hid (by rw [show veE ⟨s, v, m⟩ = 0 by unfold veE; simp only [i1, if_true]; exact rngE_t i2, if_pos rfl] at he; exact he)
              clear he hz hnm hin hg htk q0 q1 q2
              go_upto_region 8 with ((go_at_call 64; ((with_reducible refine (HNM.out _).mono ?_)); rintro e w' ⟨rfl, rfl⟩))
              refine wp_region_held_drew (S := (fun w' => w'.cell? ⟨b, off + k * 3, none⟩ = some (.string s))) (by kernel_rfl) (by simp [go_sem, cP, *]) (fun hHeld => ?_)
              refine tkA 0 20 rfl ?_
              refine tkA 1 21 rfl ?_
              refine tkA 2 22 rfl ?_
              refine tkA 3 23 rfl ?_
              refine tkA 4 24 rfl ?_
              refine tkA 5 25 rfl ?_
              refine tkA 6 26 rfl ?_
              refine tkA 7 27 rfl ?_
              refine rdA 8 rfl (fun K hK => ?_)
              go_simp
              refine (refFind_any (L.take k) (some ⟨b, off, none⟩) cap k s F _ HTL (by omega) HSL.out hF).mono ?_
              rintro e wq ⟨rfl, rfl⟩
              go_wp2_with fail
              refine hK.out _ _ (by simp [go_sem, cP, *]) (fun hHeld => ?_)
              clear hK K
              try simp only [Act.put, sA, sB, sC]
              refine tkA 9 29 rfl ?_
              refine wpAnyH_done (by kernel_rfl) ?_ _
              go_wp2_with ((go_at_call 33; ((with_reducible refine (baseWithin_any _ _ _ _).mono ?_)); rintro e w' ⟨rfl, rfl⟩))
              go_roundw
              case rel => exact ⟨k + 1, by omega, by go_num, hz2, belA⟩
              case measure => (simp [intOf]; omega)
            · have hr : Hid (E = 2) := Lib.hid (by rw [show veE ⟨s, v, m⟩ = 2 by unfold veE; simp only [i1, if_true]; exact rngE_f i2, if_neg (by omega)] at he; exact he.symm)
              clear he hz hnm hin hg htk q0 q1 q2
              go_upto_region 8 with ((go_at_call 64; ((with_reducible refine (HNM.out _).mono ?_)); rintro e w' ⟨rfl, rfl⟩))
              refine wp_region_held_drew (S := (fun w' => w'.cell? ⟨b, off + k * 3, none⟩ = some (.string s))) (by kernel_rfl) (by simp [go_sem, cP, *]) (fun hHeld => ?_)
              refine tkA 0 20 rfl ?_
              refine tkA 1 21 rfl ?_
              refine tkA 2 22 rfl ?_
              refine tkA 3 23 rfl ?_
              refine tkA 4 24 rfl ?_
              refine tkA 5 25 rfl ?_
              refine tkA 6 26 rfl ?_
              refine tkA 7 27 rfl ?_
              refine rdA 8 rfl (fun K hK => ?_)
              go_simp
              refine (refFind_any (L.take k) (some ⟨b, off, none⟩) cap k s F _ HTL (by omega) HSL.out hF).mono ?_
              rintro e wq ⟨rfl, rfl⟩
              go_wp2_with fail
              refine hK.out _ _ (by simp [go_sem, cP, *]) (fun hHeld => ?_)
              clear hK K
              try simp only [Act.put, sA, sB, sC]
              refine tkA 9 29 rfl ?_
              refine wpAnyH_done (by kernel_rfl) ?_ _
              go_wp2_with ((go_at_call 33; ((with_reducible refine (baseWithin_any _ _ _ _).mono ?_)); rintro e w' ⟨rfl, rfl⟩))
              go_ret
              exact ⟨ret_int hr.out.symm, belA⟩
          · have hr : Hid (E = 2) := Lib.hid (by rw [show veE ⟨s, v, m⟩ = 2 by unfold veE; simp [i1], if_neg (by omega)] at he; exact he.symm)
            clear he hz hnm hin hg htk q0 q1 q2
            go_upto_region 8 with ((go_at_call 64; ((with_reducible refine (HNM.out _).mono ?_)); rintro e w' ⟨rfl, rfl⟩))
            refine wp_region_held_drew (S := (fun w' => w'.cell? ⟨b, off + k * 3, none⟩ = some (.string s))) (by kernel_rfl) (by simp [go_sem, cP, *]) (fun hHeld => ?_)
            refine tkA 0 20 rfl ?_
            refine tkA 1 21 rfl ?_
            refine tkA 2 22 rfl ?_
            refine tkA 3 23 rfl ?_
            refine tkA 4 24 rfl ?_
            refine tkA 5 25 rfl ?_
            refine tkA 6 26 rfl ?_
            refine tkA 7 27 rfl ?_
            refine rdA 8 rfl (fun K hK => ?_)
            go_simp
            refine (refFind_any (L.take k) (some ⟨b, off, none⟩) cap k s F _ HTL (by omega) HSL.out hF).mono ?_
            rintro e wq ⟨rfl, rfl⟩
            go_wp2_with fail
            refine hK.out _ _ (by simp [go_sem, cP, *]) (fun hHeld => ?_)
            clear hK K
            try simp only [Act.put, sA, sB, sC]
            refine tkA 9 29 rfl ?_
            refine wpAnyH_done (by kernel_rfl) ?_ _
            go_wp2_with ((go_at_call 33; ((with_reducible refine (baseWithin_any _ _ _ _).mono ?_)); rintro e w' ⟨rfl, rfl⟩))
            go_ret
            exact ⟨ret_int hr.out.symm, belA⟩
    · have hkk : k = L.length := by have := hlen.out; omega
      have kn : ¬ (k : Int) < (len : Int) := by omega
      have hr : Hid (E = 0) := by
        show E = 0
        rw [← hz.out, hkk, List.drop_length]; rfl
      clear hz hkk
      go_wp2
      go_ret
      exact ⟨ret_int hr.out.symm, hB⟩
end Go.Proofs.Ytjkhjjmmkdfjmaa
