import Derived.Test.YtojaompfffpofaaGreatZASRunE
import Derived.Test.YtojaompfffpofaaGreatZASAwk
import Derived.Outline
namespace Go.Proofs.YtojaompfffpofaaGreat
open Go.ChangeShapes Go.WideShapes Go.ChangeAt Go.RowKit
set_option linter.unusedVariables false
set_option linter.unusedSimpArgs false
attribute [local go_sem ↓] Go.wp_at_zero Go.wp_at_succ
/-- A chart without an error is right. -/
theorem chtE_ok {Pl : List ByteArray} {M : List (List Int)} (hsz : ∀ s ∈ Pl, s.size ≤ 1000000) (h : chtE Pl M = 0) : ChOk Pl M := by
  unfold chtE at h
  by_cases h1 : 12 < Pl.length
  · rw [if_pos h1] at h; omega
  rw [if_neg h1] at h
  by_cases h2 : nmlE [] Pl = 0
  · rw [if_pos h2] at h
    by_cases h3 : M.length ≠ Pl.length ∨ othB Pl.length M = true
    · rw [if_pos h3] at h; omega
    rw [if_neg h3] at h
    have hl : M.length = Pl.length := by
      by_cases e : M.length = Pl.length
      · exact e
      · exact absurd (Or.inl e) h3
    have ho : othB Pl.length M = false := by
      cases e : othB Pl.length M with
      | false => rfl
      | true => exact absurd (Or.inr e) h3
    have hc : ∀ i j, i < Pl.length → j < Pl.length → celE i j (mAt M i j) = 0 := fun i j hi hj => fsN_all (fsN_all h i hi) j hj
    refine ⟨by omega, h2, hsz, hl, fun i hi => othB_row ho i (by omega), fun i j hi hj => ?_, fun i hi => ?_⟩
    · have := hc i j hi hj
      unfold celE at this
      split at this
      · rename_i h9; exact rngE_0 h9
      · omega
    · have := hc i i hi hi
      unfold celE at this
      split at this
      · by_cases e : mAt M i i = 0
        · exact e
        · rw [if_pos ⟨rfl, e⟩] at this; omega
      · omega
  · rw [if_neg h2] at h; exact absurd h h2
/-- The error of a chart and a run. -/
def crE (Pl : List ByteArray) (M : List (List Int)) (b : Int) (Q Z : List Int) : Int := if chtE Pl M = 0 then runE Pl.length M b Q Z else chtE Pl M
set_option maxRecDepth 100000 in
set_option maxHeartbeats 1000000 in
theorem RunTimes_bad (A B Aq As : Option Addr) (n m ca cb l l2 cq cs : Nat) (Pl : List ByteArray) (M : List (List Int)) (bg : Int) (Q Z : List Int) (E : Int) (w : World) (hn : Hid (n = Pl.length)) (hm : Hid (m = M.length)) (hl : n ≤ 1000000) (hl2 : m ≤ 1000000) (hl3 : l ≤ 1000000) (hl4 : l2 ≤ 1000000) (hsz : Hid (∀ s ∈ Pl, s.size ≤ 1000000)) (HP : Hid (SlRows strV 1 w A Pl)) (HM : Hid (SlMat w B M)) (hq : Hid (l = Q.length)) (hq2 : Hid (l2 = Z.length)) (HQ : Hid (SlRows intV 1 w Aq Q)) (HZ : Hid (SlRows intV 1 w As Z)) (hE : Hid (crE Pl M bg Q Z = E)) (hz : (E != 0) = true) :
    Calls Tryz.prog 50 #[.agg #[.slice A n ca, .slice B m cb], .agg #[.int .i64 bg, .slice Aq l cq, .slice As l2 cs]] w fun e w' => e = .returned (.tuple #[.slice none 0 0, .int .i64 E]) ∧ Below w.heap.size w w' := by
  have he := hE.out
  unfold crE at he
  obtain ⟨F, hF⟩ : ∃ F, Hid (chtE Pl M = F) := ⟨_, Lib.hid rfl⟩
  rw [hF.out] at he
  clear hE
  have i9 : ¬ E = 0 := by simpa using hz
  rcases ez2 F with ⟨hz0, hzb⟩ | ⟨hz0, hzb⟩
  · have hF0 : chtE Pl M = 0 := by rw [hF.out, hz0.out]
    have hok := chtE_ok hsz.out hF0
    have hmn : m = n := by rw [hm.out, hn.out, hok.len]
    have n12 : n ≤ 12 := by rw [hn.out]; exact hok.n12
    rw [if_pos hz0.out, ← hn.out] at he
    have HE := Lib.hid he
    have HF0 := Lib.hid hF0
    have HC : Hid (ChSl w A B n Pl M) := Lib.hid ⟨hn.out, hok, HP.out, HM.out⟩
    subst hmn
    clear he hF hz0 hzb hok hF0
    go_enter Tryz.func50, Tryz.ntmps50
    go_wp2_with fail
    obtain ⟨u, hu⟩ : ∃ u, Hid ((w.alloc (.cells #[.slice A m ca, .slice B m cb] 78)).alloc (.cells #[.int .i64 bg, .slice Aq l cq, .slice As l2 cs] 92) = u) := ⟨_, Lib.hid rfl⟩
    rw [hu.out]
    have hbu : Below w.heap.size w u := by rw [← hu.out]; (repeat (first | (with_reducible refine Below.drew ?_) | (with_reducible refine below_drewN ?_ _) | (with_reducible refine Below.alloc ?_ (by first | omega | (simp; done) | (simp; omega) | (simp at *; omega)) _) | (with_reducible refine Below.setCell ?_ (by first | omega | (simp; done) | (simp; omega) | (simp at *; omega)) _) | (with_reducible exact Below.refl _ _) | (with_reducible assumption) | (with_reducible refine Below.trans ?_ (Below.mono (by assumption) (by first | omega | (simp; done) | (simp; omega) | (simp at *; omega))))))
    have zu : u.heap.size = w.heap.size + 1 + 1 := by rw [← hu.out]; simp
    have c0 : u.cell? ⟨w.heap.size, 0, none⟩ = some (.slice A m ca) := by rw [← hu.out]; simp [go_sem, World.cell?_alloc_past]
    have c1 : u.cell? ⟨w.heap.size, 1, none⟩ = some (.slice B m cb) := by rw [← hu.out]; simp [go_sem, World.cell?_alloc_past]
    have r0 : u.cell? ⟨w.heap.size + 1, 0, none⟩ = some (.int .i64 bg) := by rw [← hu.out]; simp [go_sem]
    have r1 : u.cell? ⟨w.heap.size + 1, 1, none⟩ = some (.slice Aq l cq) := by rw [← hu.out]; simp [go_sem]
    have r2 : u.cell? ⟨w.heap.size + 1, 2, none⟩ = some (.slice As l2 cs) := by rw [← hu.out]; simp [go_sem]
    refine (CheckChart_any A B m m ca cb Pl M 0 _ hn hm (by omega) (by omega) hsz (Lib.hid (HP.out.below hbu)) (Lib.hid (HM.out.below hbu)) HF0).mono ?_
    rintro e y1 ⟨rfl, hb1⟩
    have z1 := hb1.size
    have d0 := (hb1.cell (p := ⟨w.heap.size, 0, none⟩) (show w.heap.size < u.heap.size by omega)).trans c0
    have d1 := (hb1.cell (p := ⟨w.heap.size, 1, none⟩) (show w.heap.size < u.heap.size by omega)).trans c1
    have e0 := (hb1.cell (p := ⟨w.heap.size + 1, 0, none⟩) (show w.heap.size + 1 < u.heap.size by omega)).trans r0
    have e1 := (hb1.cell (p := ⟨w.heap.size + 1, 1, none⟩) (show w.heap.size + 1 < u.heap.size by omega)).trans r1
    have e2 := (hb1.cell (p := ⟨w.heap.size + 1, 2, none⟩) (show w.heap.size + 1 < u.heap.size by omega)).trans r2
    have hB1 : Below w.heap.size w y1 := hbu.trans (hb1.mono hbu.size)
    clear hb1 c0 c1 r0 r1 r2 hbu zu z1
    go_wp2_with fail
    refine (checkRun_any A B Aq As m ca cb l l2 cq cs Pl M bg Q Z E _ n12 hl3 hl4 (Lib.hid (HC.out.below hB1)) hq hq2 (Lib.hid (HQ.out.below hB1)) (Lib.hid (HZ.out.below hB1)) HE).mono ?_
    rintro e y2 ⟨rfl, hb2⟩
    have hB2 : Below w.heap.size w y2 := hB1.trans (hb2.mono hB1.size)
    clear hb2
    go_wp2
    go_ret2
    exact ⟨rfl, hB2⟩
  · rw [if_neg hz0.out] at he
    subst he
    clear hz0
    go_enter Tryz.func50, Tryz.ntmps50
    go_wp2_with fail
    have hbu : Below w.heap.size w ((w.alloc (.cells #[.slice A n ca, .slice B m cb] 78)).alloc (.cells #[.int .i64 bg, .slice Aq l cq, .slice As l2 cs] 92)) := (by (repeat (first | (with_reducible refine Below.drew ?_) | (with_reducible refine below_drewN ?_ _) | (with_reducible refine Below.alloc ?_ (by first | omega | (simp; done) | (simp; omega) | (simp at *; omega)) _) | (with_reducible refine Below.setCell ?_ (by first | omega | (simp; done) | (simp; omega) | (simp at *; omega)) _) | (with_reducible exact Below.refl _ _) | (with_reducible assumption) | (with_reducible refine Below.trans ?_ (Below.mono (by assumption) (by first | omega | (simp; done) | (simp; omega) | (simp at *; omega)))))))
    refine (CheckChart_any A B n m ca cb Pl M F _ hn hm hl hl2 hsz (Lib.hid (HP.out.below hbu)) (Lib.hid (HM.out.below hbu)) hF).mono ?_
    rintro e y1 ⟨rfl, hb1⟩
    have hB1 : Below w.heap.size w y1 := hbu.trans (hb1.mono hbu.size)
    clear hb1 hbu
    go_wp2
    go_ret2
    exact ⟨rfl, hB1⟩
/-- Whether minutes lie in a window; in one of some. -/
def fitU (ta tb : Int) (x : Rg) : Bool := decide (x.lo ≤ ta) && decide (tb ≤ x.hi)
def fitW (L : List Rg) (ta tb : Int) : Bool := L.any (fitU ta tb)
theorem fitU_cases (ta tb : Int) (x : Rg) : fitU ta tb x = true ∨ fitU ta tb x = false := by cases fitU ta tb x <;> simp
theorem fitW_at {L : List Rg} {ta tb : Int} {k : Nat} (hk : k < L.length) (h : fitU ta tb (L.getD k default) = true) : fitW L ta tb = true := by
  rw [getD_at hk] at h
  exact List.any_eq_true.2 ⟨_, List.getElem_mem hk, h⟩
theorem fitW_no {L : List Rg} {ta tb : Int} (h : ∀ j, j < L.length → fitU ta tb (L.getD j default) = false) : fitW L ta tb = false := by
  unfold fitW
  rw [List.any_eq_false]
  intro x hx
  obtain ⟨k, hk, rfl⟩ := List.getElem_of_mem hx
  have := h k hk
  rw [getD_at hk] at this
  rw [this]; exact Bool.false_ne_true
theorem fit1_is (lo hi ta tb : Int) (c : Nat) (p : Bool) (w : World) (hc : w.cell? ⟨c, 0, none⟩ = some (.int .i64 ta)) (hc2 : w.cell? ⟨c, 1, none⟩ = some (.int .i64 tb)) (hcl : c < w.heap.size) (hp : Hid (fitU ta tb ⟨lo, hi⟩ = p)) :
    Calls Tryz.prog 134 #[.agg #[.int .i64 lo, .int .i64 hi], .pointer (some ⟨c, 0, none⟩)] w fun e w' => e = .returned (.bool p) ∧ Below w.heap.size w w' := by
  have o1 : c ≠ w.heap.size := by omega
  have o2 : w.heap.size ≠ c := by omega
  have hp2 := hp.out
  unfold fitU at hp2
  dsimp only at hp2
  by_cases h1 : lo ≤ ta
  · have j1 : decide (lo ≤ ta) = true := by simpa using h1
    by_cases h2 : tb ≤ hi
    · have j2 : decide (tb ≤ hi) = true := by simpa using h2
      have hr : Hid (true = p) := Lib.hid (by rw [← hp2, j1, j2]; rfl)
      clear hp hp2
      go_enter Tryz.func134, Tryz.ntmps134
      go_wp2
      go_ret
      exact ⟨by rw [hr.out]; first | rfl | simp [*], (by (repeat (first | (with_reducible refine Below.drew ?_) | (with_reducible refine below_drewN ?_ _) | (with_reducible refine Below.alloc ?_ (by first | omega | (simp; done) | (simp; omega) | (simp at *; omega)) _) | (with_reducible refine Below.setCell ?_ (by first | omega | (simp; done) | (simp; omega) | (simp at *; omega)) _) | (with_reducible exact Below.refl _ _) | (with_reducible assumption) | (with_reducible refine Below.trans ?_ (Below.mono (by assumption) (by first | omega | (simp; done) | (simp; omega) | (simp at *; omega)))))))⟩
    · have j2 : decide (tb ≤ hi) = false := by simpa using h2
      have hr : Hid (false = p) := Lib.hid (by rw [← hp2, j1, j2]; rfl)
      clear hp hp2
      go_enter Tryz.func134, Tryz.ntmps134
      go_wp2
      go_ret
      exact ⟨by rw [hr.out]; first | rfl | simp [*], (by (repeat (first | (with_reducible refine Below.drew ?_) | (with_reducible refine below_drewN ?_ _) | (with_reducible refine Below.alloc ?_ (by first | omega | (simp; done) | (simp; omega) | (simp at *; omega)) _) | (with_reducible refine Below.setCell ?_ (by first | omega | (simp; done) | (simp; omega) | (simp at *; omega)) _) | (with_reducible exact Below.refl _ _) | (with_reducible assumption) | (with_reducible refine Below.trans ?_ (Below.mono (by assumption) (by first | omega | (simp; done) | (simp; omega) | (simp at *; omega)))))))⟩
  · have j1 : decide (lo ≤ ta) = false := by simpa using h1
    have hr : Hid (false = p) := Lib.hid (by rw [← hp2, j1]; rfl)
    clear hp hp2
    go_enter Tryz.func134, Tryz.ntmps134
    go_wp2
    go_ret
    exact ⟨by rw [hr.out]; first | rfl | simp [*], (by (repeat (first | (with_reducible refine Below.drew ?_) | (with_reducible refine below_drewN ?_ _) | (with_reducible refine Below.alloc ?_ (by first | omega | (simp; done) | (simp; omega) | (simp at *; omega)) _) | (with_reducible refine Below.setCell ?_ (by first | omega | (simp; done) | (simp; omega) | (simp at *; omega)) _) | (with_reducible exact Below.refl _ _) | (with_reducible assumption) | (with_reducible refine Below.trans ?_ (Below.mono (by assumption) (by first | omega | (simp; done) | (simp; omega) | (simp at *; omega)))))))⟩
set_option maxRecDepth 100000 in
set_option maxHeartbeats 2000000 in
theorem indexFit_is (L : List Rg) (A : Option Addr) (cap n c : Nat) (ta tb : Int) (p : Bool) (w : World) (hn : Hid (n = L.length)) (hl : n ≤ 1000000) (hL : SlRows rgV 2 w A L) (hc : w.cell? ⟨c, 0, none⟩ = some (.int .i64 ta)) (hc2 : w.cell? ⟨c, 1, none⟩ = some (.int .i64 tb)) (hcl : c < w.heap.size) (hp : Hid (fitW L ta tb = p)) :
    Calls Tryz.prog 154 #[.slice A n cap, .func (.func 134) #[] #[.pointer (some ⟨c, 0, none⟩)]] w (IdxR p n w) := by
  have HR : Hid (∀ w' : World, Below w.heap.size w w' → SlRows rgV 2 w' A L) := Lib.hid fun w' hB => hL.below hB
  clear hL
  go_enter Tryz.func154, Tryz.ntmps154
  go_wp2
  go_loopw [8] (fun i wr => ∃ k : Nat, k ≤ n ∧ i = .int .i64 k ∧ Hid (∀ j, j < k → fitU ta tb (L.getD j default) = false) ∧ Below w.heap.size w wr) (fun i _ => n - (intOf i).toNat)
  case atStart => exact ⟨0, by omega, rfl, Lib.hid fun j hj => by omega, (by (repeat (first | (with_reducible refine Below.drew ?_) | (with_reducible refine below_drewN ?_ _) | (with_reducible refine Below.alloc ?_ (by first | omega | (simp; done) | (simp; omega) | (simp at *; omega)) _) | (with_reducible refine Below.setCell ?_ (by first | omega | (simp; done) | (simp; omega) | (simp at *; omega)) _) | (with_reducible exact Below.refl _ _) | (with_reducible assumption) | (with_reducible refine Below.trans ?_ (Below.mono (by assumption) (by first | omega | (simp; done) | (simp; omega) | (simp at *; omega)))))))⟩
  case round =>
    obtain ⟨k, hk, rfl, hz, hB⟩ := hrel
    have hsz := hB.size
    by_cases hkn : k < n
    · have hkl : k < L.length := by have := hn.out; omega
      have kn : (k : Int) < (n : Int) := by omega
      rcases HR.out _ hB with h0 | ⟨bl, off, rfl, hlt, hR⟩
      · rw [h0] at hkl; simp at hkl
      obtain ⟨c0, c1⟩ := rg_at hR hkl
      obtain ⟨⟨a, b⟩, hx⟩ : ∃ x, Hid (L.getD k default = x) := ⟨_, Lib.hid rfl⟩
      rw [hx.out] at c0 c1
      dsimp only at c0 c1
      have cw := (hB.cell (p := ⟨c, 0, none⟩) hcl).trans hc
      have cw2 := (hB.cell (p := ⟨c, 1, none⟩) hcl).trans hc2
      have hcw : c < wr.heap.size := by omega
      rcases fitU_cases ta tb ⟨a, b⟩ with hi | hi
      · have hr : Hid (p = true) := Lib.hid (by rw [← hp.out]; exact fitW_at hkl (by rw [hx.out]; exact hi))
        have HI := Lib.hid hi
        clear hi hz hR
        go_wp2_with fail
        refine (fit1_is a b ta tb c true _ cw cw2 hcw HI).mono ?_
        rintro e w1 ⟨rfl, hb1⟩
        have hB1 : Below w.heap.size w w1 := hB.trans (hb1.mono hB.size)
        clear hb1
        go_wp2
        go_ret
        exact ⟨Or.inl ⟨hr.out, k, hkn, rfl⟩, hB1⟩
      · have hz2 : Hid (∀ j, j < k + 1 → fitU ta tb (L.getD j default) = false) := Lib.hid fun j hj => by
          by_cases e : j = k
          · rw [e, hx.out]; exact hi
          · exact hz.out j (by omega)
        have HI := Lib.hid hi
        clear hi hz hR
        go_wp2_with fail
        refine (fit1_is a b ta tb c false _ cw cw2 hcw HI).mono ?_
        rintro e w1 ⟨rfl, hb1⟩
        have hB1 : Below w.heap.size w w1 := hB.trans (hb1.mono hB.size)
        clear hb1
        go_wp2
        go_roundw
        case rel => exact ⟨k + 1, by omega, by go_num, hz2, hB1⟩
        case measure => (simp [intOf]) <;> omega
    · have hkk : k = n := by omega
      have hr : Hid (p = false) := Lib.hid (by rw [← hp.out]; exact fitW_no fun j hj => hz.out j (by have := hn.out; omega))
      clear hz hkk
      go_wp2
      go_ret
      exact ⟨Or.inr ⟨hr.out, rfl⟩, hB⟩
theorem containsFit_is (L : List Rg) (A : Option Addr) (cap n c : Nat) (ta tb : Int) (p : Bool) (w : World) (hn : Hid (n = L.length)) (hl : n ≤ 1000000) (hL : SlRows rgV 2 w A L) (hc : w.cell? ⟨c, 0, none⟩ = some (.int .i64 ta)) (hc2 : w.cell? ⟨c, 1, none⟩ = some (.int .i64 tb)) (hcl : c < w.heap.size) (hp : Hid (fitW L ta tb = p)) :
    Calls Tryz.prog 133 #[.slice A n cap, .func (.func 134) #[] #[.pointer (some ⟨c, 0, none⟩)]] w fun e w' => e = .returned (.bool p) ∧ Below w.heap.size w w' := by
  have HL := Lib.hid hL
  clear hL
  go_enter Tryz.func133, Tryz.ntmps133
  go_wp2_with fail
  refine (indexFit_is L A cap n c ta tb p _ hn hl HL.out hc hc2 hcl hp).mono ?_
  rintro e w1 ⟨⟨hpt, k, hk, rfl⟩ | ⟨hpf, rfl⟩, hb⟩
  · have HP := Lib.hid hpt
    have i0 : (0 : Int) ≤ (k : Int) := by omega
    clear hpt
    go_wp2
    go_ret
    exact ⟨ret_bool HP.out.symm, hb⟩
  · have HP := Lib.hid hpf
    clear hpf
    go_wp2
    go_ret
    exact ⟨ret_bool HP.out.symm, hb⟩
/-- The error of a stop's windows. -/
def fitE (L : List Rg) (ta tb : Int) : Int := if winE L = 0 then (if fitW L ta tb = true then 0 else 13) else winE L
set_option maxRecDepth 100000 in
set_option maxHeartbeats 1000000 in
theorem checkFit_any (L : List Rg) (A : Option Addr) (cap n : Nat) (ta tb : Int) (E : Int) (w : World) (hn : Hid (n = L.length)) (hl : n ≤ 1000000) (HL : Hid (SlRows rgV 2 w A L)) (hE : Hid (fitE L ta tb = E)) :
    Calls Tryz.prog 103 #[.slice A n cap, .agg #[.int .i64 ta, .int .i64 tb]] w fun e w' => e = .returned (.int .i64 E) ∧ Below w.heap.size w w' := by
  have HR : Hid (∀ w' : World, Below w.heap.size w w' → SlRows rgV 2 w' A L) := Lib.hid fun w' hB => HL.out.below hB
  have hmf : ∀ (fn : Fn) (first cap : Array Value) (w : World), (Instr.makeFunc fn first cap).run Tryz.prog w = .ok (.func fn first cap) w := fun _ _ _ _ => rfl
  obtain ⟨F, hF⟩ : ∃ F, Hid (winE L = F) := ⟨_, Lib.hid rfl⟩
  have he := hE.out
  unfold fitE at he
  rw [hF.out] at he
  clear hE
  rcases ez2 F with ⟨hz0, hzb⟩ | ⟨hz0, hzb⟩
  · rw [if_pos hz0.out] at he
    cases hp : fitW L ta tb with
    | true =>
      have hr : Hid (0 = E) := Lib.hid (by rw [hp, if_pos rfl] at he; exact he)
      have HP := Lib.hid hp
      clear he hz0 hp
      go_enter Tryz.func103, Tryz.ntmps103
      go_wp2_with fail
      refine (CheckWindows_is L A cap n F _ hn hl (HR.out _ (by (repeat (first | (with_reducible refine Below.drew ?_) | (with_reducible refine below_drewN ?_ _) | (with_reducible refine Below.alloc ?_ (by first | omega | (simp; done) | (simp; omega) | (simp at *; omega)) _) | (with_reducible refine Below.setCell ?_ (by first | omega | (simp; done) | (simp; omega) | (simp at *; omega)) _) | (with_reducible exact Below.refl _ _) | (with_reducible assumption) | (with_reducible refine Below.trans ?_ (Below.mono (by assumption) (by first | omega | (simp; done) | (simp; omega) | (simp at *; omega)))))))) hF).mono ?_
      rintro e w1 ⟨rfl, hb1⟩
      have z1 := hb1.size
      simp at z1
      have d0 : w1.cell? ⟨w.heap.size, 0, none⟩ = some (.int .i64 ta) := by rw [(bcell hb1).1 _ _ (by simp)]; simp [go_sem]
      have d1 : w1.cell? ⟨w.heap.size, 1, none⟩ = some (.int .i64 tb) := by rw [(bcell hb1).1 _ _ (by simp)]; simp [go_sem]
      have hB1 : Below w.heap.size w w1 := (by (repeat (first | (with_reducible refine Below.drew ?_) | (with_reducible refine below_drewN ?_ _) | (with_reducible refine Below.alloc ?_ (by first | omega | (simp; done) | (simp; omega) | (simp at *; omega)) _) | (with_reducible refine Below.setCell ?_ (by first | omega | (simp; done) | (simp; omega) | (simp at *; omega)) _) | (with_reducible exact Below.refl _ _) | (with_reducible assumption) | (with_reducible refine Below.trans ?_ (Below.mono (by assumption) (by first | omega | (simp; done) | (simp; omega) | (simp at *; omega)))))))
      clear hb1
      go_wp2_with fail
      refine (containsFit_is L A cap n w.heap.size ta tb true _ hn hl (HR.out _ hB1) d0 d1 (by omega) HP).mono ?_
      rintro e w2 ⟨rfl, hb2⟩
      have hB2 : Below w.heap.size w w2 := hB1.trans (hb2.mono hB1.size)
      clear hb2
      go_wp2
      go_ret
      exact ⟨ret_int hr.out, hB2⟩
    | false =>
      have hr : Hid (13 = E) := Lib.hid (by rw [hp, if_neg Bool.false_ne_true] at he; exact he)
      have HP := Lib.hid hp
      clear he hz0 hp
      go_enter Tryz.func103, Tryz.ntmps103
      go_wp2_with fail
      refine (CheckWindows_is L A cap n F _ hn hl (HR.out _ (by (repeat (first | (with_reducible refine Below.drew ?_) | (with_reducible refine below_drewN ?_ _) | (with_reducible refine Below.alloc ?_ (by first | omega | (simp; done) | (simp; omega) | (simp at *; omega)) _) | (with_reducible refine Below.setCell ?_ (by first | omega | (simp; done) | (simp; omega) | (simp at *; omega)) _) | (with_reducible exact Below.refl _ _) | (with_reducible assumption) | (with_reducible refine Below.trans ?_ (Below.mono (by assumption) (by first | omega | (simp; done) | (simp; omega) | (simp at *; omega)))))))) hF).mono ?_
      rintro e w1 ⟨rfl, hb1⟩
      have z1 := hb1.size
      simp at z1
      have d0 : w1.cell? ⟨w.heap.size, 0, none⟩ = some (.int .i64 ta) := by rw [(bcell hb1).1 _ _ (by simp)]; simp [go_sem]
      have d1 : w1.cell? ⟨w.heap.size, 1, none⟩ = some (.int .i64 tb) := by rw [(bcell hb1).1 _ _ (by simp)]; simp [go_sem]
      have hB1 : Below w.heap.size w w1 := (by (repeat (first | (with_reducible refine Below.drew ?_) | (with_reducible refine below_drewN ?_ _) | (with_reducible refine Below.alloc ?_ (by first | omega | (simp; done) | (simp; omega) | (simp at *; omega)) _) | (with_reducible refine Below.setCell ?_ (by first | omega | (simp; done) | (simp; omega) | (simp at *; omega)) _) | (with_reducible exact Below.refl _ _) | (with_reducible assumption) | (with_reducible refine Below.trans ?_ (Below.mono (by assumption) (by first | omega | (simp; done) | (simp; omega) | (simp at *; omega)))))))
      clear hb1
      go_wp2_with fail
      refine (containsFit_is L A cap n w.heap.size ta tb false _ hn hl (HR.out _ hB1) d0 d1 (by omega) HP).mono ?_
      rintro e w2 ⟨rfl, hb2⟩
      have hB2 : Below w.heap.size w w2 := hB1.trans (hb2.mono hB1.size)
      clear hb2
      go_wp2
      go_ret
      exact ⟨ret_int hr.out, hB2⟩
  · rw [if_neg hz0.out] at he
    have hr : Hid (F = E) := Lib.hid he
    clear he hz0
    go_enter Tryz.func103, Tryz.ntmps103
    go_wp2_with fail
    refine (CheckWindows_is L A cap n F _ hn hl (HR.out _ (by (repeat (first | (with_reducible refine Below.drew ?_) | (with_reducible refine below_drewN ?_ _) | (with_reducible refine Below.alloc ?_ (by first | omega | (simp; done) | (simp; omega) | (simp at *; omega)) _) | (with_reducible refine Below.setCell ?_ (by first | omega | (simp; done) | (simp; omega) | (simp at *; omega)) _) | (with_reducible exact Below.refl _ _) | (with_reducible assumption) | (with_reducible refine Below.trans ?_ (Below.mono (by assumption) (by first | omega | (simp; done) | (simp; omega) | (simp at *; omega)))))))) hF).mono ?_
    rintro e w1 ⟨rfl, hb1⟩
    have hB1 : Below w.heap.size w w1 := (by (repeat (first | (with_reducible refine Below.drew ?_) | (with_reducible refine below_drewN ?_ _) | (with_reducible refine Below.alloc ?_ (by first | omega | (simp; done) | (simp; omega) | (simp at *; omega)) _) | (with_reducible refine Below.setCell ?_ (by first | omega | (simp; done) | (simp; omega) | (simp at *; omega)) _) | (with_reducible exact Below.refl _ _) | (with_reducible assumption) | (with_reducible refine Below.trans ?_ (Below.mono (by assumption) (by first | omega | (simp; done) | (simp; omega) | (simp at *; omega)))))))
    clear hb1
    go_wp2
    go_ret
    exact ⟨ret_int hr.out, hB1⟩
end Go.Proofs.YtojaompfffpofaaGreat
