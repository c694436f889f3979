import Derived.Test.YtojaompfffpofaaGreatZASLawRc
import Derived.Test.YtojaompfffpofaaGreatZASAwk2
import Derived.Test.YtojaompfffpofaaGreatZAArg2
import Derived.Outline
namespace Go.Proofs.YtojaompfffpofaaGreat
open Go.ChangeShapes Go.WideShapes Go.ChangeAt Go.RowKit
set_option linter.unusedVariables false
set_option linter.unusedSimpArgs false
attribute [local go_sem ↓] Go.wp_at_zero Go.wp_at_succ
theorem flatB_ok {Pl : List ByteArray} {M : List (List Int)} (h : flatB Pl M = true) : Pl.length ≤ 14 ∧ M.length ≤ 14 ∧ (∀ s ∈ Pl, s.size ≤ 20) ∧ (∀ r ∈ M, r.length ≤ 14) := by
  unfold flatB at h
  rw [Bool.and_eq_true, Bool.and_eq_true, List.all_eq_true, List.all_eq_true] at h
  obtain ⟨⟨h1, h2⟩, h3⟩ := h
  have h4 : (Pl.length ≤ 6 ∨ 12 < Pl.length) ∧ Pl.length ≤ 14 ∧ M.length ≤ 14 := by simpa using h1
  exact ⟨by omega, by omega, fun s hs => by simpa using h2 s hs, fun r hr => by simpa using h3 r hr⟩
theorem rn_all (A B Aq As D : Option Addr) (n m ca cb l l2 cq cs lw cd : Nat) (Pl : List ByteArray) (M : List (List Int)) (bg : Int) (Q Z : List Int) (W : List (List Rg)) (w : World) (hn : Hid (n = Pl.length)) (hm : Hid (m = M.length)) (hq : Hid (l = Q.length)) (hq2 : Hid (l2 = Z.length)) (hlw : Hid (lw = W.length)) (hsz : Hid (∀ s ∈ Pl, s.size ≤ 9223372036854775807)) (hrl : Hid (∀ k, k < m → (M.getD k []).length ≤ 9223372036854775807)) (HP0 : Hid (SlRows strV 1 w A Pl)) (HM0 : Hid (SlMatC w B M)) (HQ0 : Hid (SlRows intV 1 w Aq Q)) (HZ0 : Hid (SlRows intV 1 w As Z)) (HW0 : Hid (SlWnC w D W)) (hcap : n ≤ ca) (CA0 : A = none → ca = 0) (CAq0 : Aq = none → cq = 0) (CAs0 : As = none → cs = 0) :
    Calls Tryz.prog 9 #[.agg #[.slice A n ca, .slice B m cb], .agg #[.int .i64 bg, .slice Aq l cq, .slice As l2 cs], .slice D lw cd] w fun e w' => e = .returned (.bool true) ∧ Below w.heap.size w w' := by
  have CA : Hid (A = none → n = 0 ∧ ca = 0) := Lib.hid fun h => ⟨by have := HP0.out; rw [h] at this; rw [hn.out, gr_none this]; rfl, CA0 h⟩
  have CAq : Hid (Aq = none → l = 0 ∧ cq = 0) := Lib.hid fun h => ⟨by have := HQ0.out; rw [h] at this; rw [hq.out, gr_none this]; rfl, CAq0 h⟩
  have CAs : Hid (As = none → l2 = 0 ∧ cs = 0) := Lib.hid fun h => ⟨by have := HZ0.out; rw [h] at this; rw [hq2.out, gr_none this]; rfl, CAs0 h⟩
  by_cases hF : flatB Pl M = true
  · obtain ⟨f1, f2, f3, f4⟩ := flatB_ok hF
    have hF := Lib.hid hF
    have q1 := hn.out
    have q2 := hm.out
    by_cases h1 : 14 < l
    · exact rn_many1 A B Aq As D n m ca cb l l2 cq cs lw cd Pl M bg Q Z W w hn hm hq hq2 hlw hsz hrl HP0 HM0 HQ0 HZ0 HW0 hF h1
    by_cases h2 : 14 < l2
    · exact rn_many2 A B Aq As D n m ca cb l l2 cq cs lw cd Pl M bg Q Z W w hn hm hq hq2 hlw hsz hrl HP0 HM0 HQ0 HZ0 HW0 hF (by omega) h2
    by_cases h3 : 14 < lw
    · exact rn_many3 A B Aq As D n m ca cb l l2 cq cs lw cd Pl M bg Q Z W w hn hm hq hq2 hlw hsz hrl HP0 HM0 HQ0 HZ0 HW0 hF (by omega) (by omega) h3
    have hs6 : Hid (∀ s ∈ Pl, s.size ≤ 1000000) := Lib.hid fun s hs => by have := f3 s hs; omega
    have hrs : Hid (∀ k, k < m → (M.getD k []).length ≤ 1000000) := Lib.hid fun k hk => by
      have hkM : k < M.length := by omega
      rw [getD_at hkM]; have := f4 _ (List.getElem_mem hkM); omega
    by_cases hC : chtE Pl M = 0
    · have HOK := chtE_ok hs6.out hC
      obtain rfl : n = m := by rw [q1, q2, HOK.len]
      by_cases hR : runE n M bg Q Z = 0
      · have HRO := runE_ok hR
        obtain rfl : l = l2 := by rw [hq.out, hq2.out, HRO.ls]
        by_cases hll : lw = l
        · subst hll
          exact rn_good A B Aq As D n ca cb lw cq cs cd Pl M bg Q Z W w hn hm hq hq2 hlw hsz hrl HP0 HM0 HQ0 HZ0 HW0 hF (by omega) (by omega) (by omega) (by omega) (by omega) hcap hs6 hrs CA CAq CAs (Lib.hid hC) (Lib.hid hR) _ (Lib.hid rfl) _ _ (Lib.hid rfl) (Lib.hid rfl)
        · exact rn_shape A B Aq As D n ca cb l cq cs lw cd Pl M bg Q Z W w hn hm hq hq2 hlw hsz hrl HP0 HM0 HQ0 HZ0 HW0 hF (by omega) (by omega) (by omega) (by omega) (by omega) hcap hs6 hrs CA CAq CAs (Lib.hid hC) (Lib.hid hR) _ (Lib.hid rfl) hll
      · exact rn_badr A B Aq As D n ca cb l l2 cq cs lw cd Pl M bg Q Z W w hn hm hq hq2 hlw hsz hrl HP0 HM0 HQ0 HZ0 HW0 hF (by omega) (by omega) (by omega) (by omega) (by omega) hcap hs6 hrs CA CAq CAs _ (Lib.hid hC) (Lib.hid rfl) (by simpa using hR)
    · exact rn_badc A B Aq As D n m ca cb l l2 cq cs lw cd Pl M bg Q Z W w hn hm hq hq2 hlw hsz hrl HP0 HM0 HQ0 HZ0 HW0 hF (by omega) (by omega) (by omega) (by omega) (by omega) hcap hs6 hrs CA CAq CAs _ (Lib.hid rfl) (by simpa using hC)
  · exact rn_flat A B Aq As D n m ca cb l l2 cq cs lw cd Pl M bg Q Z W w hn hm hq hq2 hlw hsz hrl HP0 HM0 HQ0 HZ0 HW0 (Lib.hid (by simpa using hF))
theorem slsl_mat {w : World} {B : Option Addr} {M : List (List Int)} (h : SlSl (fun A0 L0 c0 => SlRows intV 1 w A0 L0 ∧ (∀ g ∈ L0, (fun _ => True) g) ∧ (A0 = none → c0 = 0) ∧ L0.length ≤ c0 ∧ c0 ≤ maxLen) w B M) : SlMatC w B M ∧ ∀ k, k < M.length → (M.getD k []).length ≤ 9223372036854775807 := by
  rcases h with h | ⟨b, off, h1, h2, h3⟩
  · exact ⟨Or.inl h, fun k hk => by rw [h] at hk; simp at hk⟩
  · exact ⟨Or.inr ⟨b, off, h1, h2, fun k hk => by obtain ⟨A, cap, h4, h5, _, h6, _⟩ := h3 k hk; exact ⟨A, cap, h4, h5, h6⟩⟩, fun k hk => by obtain ⟨A, cap, h4, h5, _, _, h6, h7⟩ := h3 k hk; unfold maxLen at h7; omega⟩
theorem slsl_wn {w : World} {B : Option Addr} {M : List (List Rg)} (h : SlSl (fun A0 L0 c0 => SlRows rgV 2 w A0 L0 ∧ (∀ g ∈ L0, (fun _ => True) g) ∧ (A0 = none → c0 = 0) ∧ L0.length ≤ c0 ∧ c0 ≤ maxLen) w B M) : SlWnC w B M := by
  rcases h with h | ⟨b, off, h1, h2, h3⟩
  · exact Or.inl h
  · exact Or.inr ⟨b, off, h1, h2, fun k hk => by obtain ⟨A, cap, h4, h5, _, h6, _⟩ := h3 k hk; exact ⟨A, cap, h4, h5, h6⟩⟩
theorem siteRuns_any (Pl : List ByteArray) (A : Option Addr) (ca : Nat) (M : List (List Int)) (B : Option Addr) (cb : Nat) (bg : Int) (Q : List Int) (Aq : Option Addr) (cq : Nat) (Z : List Int) (As : Option Addr) (cs : Nat) (W : List (List Rg)) (D : Option Addr) (cd : Nat) (w : World)
    (_ : Pl.length ≤ 9223372036854775807) (CA : A = none → ca = 0) (HP : SlRows strV 1 w A Pl) (hsz : ∀ g ∈ Pl, (fun s => s.size ≤ maxLen) g) (hcap : Pl.length ≤ ca)
    (_ : M.length ≤ 9223372036854775807) (_ : B = none → cb = 0) (HM : SlSl (fun A0 L0 c0 => SlRows intV 1 w A0 L0 ∧ (∀ g ∈ L0, (fun _ => True) g) ∧ (A0 = none → c0 = 0) ∧ L0.length ≤ c0 ∧ c0 ≤ maxLen) w B M)
    (_ : Q.length ≤ 9223372036854775807) (CAq : Aq = none → cq = 0) (HQ : SlRows intV 1 w Aq Q) (_ : Z.length ≤ 9223372036854775807) (CAs : As = none → cs = 0) (HZ : SlRows intV 1 w As Z)
    (_ : W.length ≤ 9223372036854775807) (_ : D = none → cd = 0) (HW : SlSl (fun A0 L0 c0 => SlRows rgV 2 w A0 L0 ∧ (∀ g ∈ L0, (fun _ => True) g) ∧ (A0 = none → c0 = 0) ∧ L0.length ≤ c0 ∧ c0 ≤ maxLen) w D W) :
    Calls Tryz.prog 9 #[.agg #[.slice A Pl.length ca, .slice B M.length cb], .agg #[.int .i64 bg, .slice Aq Q.length cq, .slice As Z.length cs], .slice D W.length cd] w fun e w' => e = .returned (.bool true) ∧ Below w.heap.size w w' :=
  rn_all A B Aq As D Pl.length M.length ca cb Q.length Z.length cq cs W.length cd Pl M bg Q Z W w (Lib.hid rfl) (Lib.hid rfl) (Lib.hid rfl) (Lib.hid rfl) (Lib.hid rfl) (Lib.hid fun s hs => by have := hsz s hs; simp only at this; unfold maxLen at this; omega) (Lib.hid (slsl_mat HM).2) (Lib.hid HP) (Lib.hid (slsl_mat HM).1) (Lib.hid HQ) (Lib.hid HZ) (Lib.hid (slsl_wn HW)) hcap CA CAq CAs
end Go.Proofs.YtojaompfffpofaaGreat
