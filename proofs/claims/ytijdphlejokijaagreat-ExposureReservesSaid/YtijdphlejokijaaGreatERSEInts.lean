import Derived.Test.YtijdphlejokijaaGreatERSENeedA
import Derived.Test.YtijdphlejokijaaGreatERSEDpts
import Derived.Outline
namespace Go.Proofs.YtijdphlejokijaaGreat
open Go.ChangeShapes Go.WideShapes Go.ChangeAt Go.RowKit
set_option linter.unusedVariables false
set_option linter.unusedSimpArgs false
attribute [local go_sem ↓] Go.wp_at_zero Go.wp_at_succ
def dG : List Ga := [⟨210, 0⟩, ⟨500, 0⟩]
def dD : List Le := [⟨60, 1800, 0⟩, ⟨600, 1800, 0⟩, ⟨120, 600, 0⟩, ⟨300, 600, 1⟩]
def dT : List Ox := [⟨500, 100⟩, ⟨1000, 300⟩]
def dR : Ru := ⟨160, 1400, 3000, 5200, 20000, 40000, 60, 1000⟩
theorem dPln : plnP ⟨#[112]⟩ 1013 dG dD = ((plnP ⟨#[112]⟩ 1013 dG dD).1, 0) := by kernel_rfl
theorem dRul : ruE dT dR = 0 := by kernel_rfl
theorem dClk : ((List.range 4).map fun k => clkX dT (legK 1013 dG dD k)) = [1441, 60000, 4321, 30000] := by kernel_rfl
theorem dCon : conA 20000 (legK 1013 dG dD) 2 (List.range 4) = [689380, 161300] := by kernel_rfl
theorem dNed : (conA dR.br (legC 1013 dG dD) 2 (List.range 1)).getD 0 0 + nedV (legC 1013 dG dD 1) dR (660 - (legC 1013 dG dD 1).bs) = 851116 := by kernel_rfl
theorem dEnd0 : ∀ j, j < 1 → endC 1013 dG dD j < 660 := by
  intro j hj
  obtain rfl : j = 0 := by omega
  decide +kernel
theorem dBeg : (legC 1013 dG dD 1).bs ≤ 660 := by decide +kernel
theorem dEnd1 : 660 ≤ endC 1013 dG dD 1 := by decide +kernel
theorem dSec : secT dD 4 = 1080 := by kernel_rfl
theorem dShort : ∀ k, (legC 1013 dG dD k).s ≤ 20000 := by
  intro k
  by_cases h : k < 4
  · have h4 : k = 0 ∨ k = 1 ∨ k = 2 ∨ k = 3 := by omega
    rcases h4 with rfl | rfl | rfl | rfl <;> decide +kernel
  · unfold legC
    rw [if_neg (by simpa [dD] using h)]
    decide
theorem dpt_eq {p : Nat → Bool} (hm : ∀ i j, i ≤ j → p i = true → p j = true) {t N : Nat} (h1 : p t = true) (h0 : ∀ i, i < t → p i = false) (hN : t < N) : dpt p N = t := by
  obtain ⟨a, b, c⟩ := dpt_is hm N
  rcases Nat.lt_trichotomy (dpt p N) t with h | h | h
  · have := c _ (Nat.le_refl _) (by omega)
    rw [h0 _ h] at this; cases this
  · exact h
  · have := b t h
    rw [h1] at this; cases this
theorem dDpt : dptP dR 210 0 1000 = (0, 3000, 0) := by
  have m1 := poorP_mono dR (o := 210) (s := 1000) (by decide)
  have m2 := deepP_mono dR (o := 210) (h := 0) (s := 1000) (by decide) (by decide) (by decide) (by decide) (by decide)
  have e1 : dpt (poorP dR 210 1000) 30001 = 0 := dpt_eq m1 (by decide +kernel) (fun i hi => absurd hi (Nat.not_lt_zero _)) (by decide)
  have e2 : dpt (deepP dR 210 0 1000) 30001 = 3001 := dpt_eq m2 (by decide +kernel) (fun i hi => by
    cases h : deepP dR 210 0 1000 i with
    | false => rfl
    | true =>
      have h2 := m2 i 3000 (by omega) h
      rw [show deepP dR 210 0 1000 3000 = false by decide +kernel] at h2
      cases h2) (by decide)
  unfold dptP
  rw [e1, e2]
  rfl
set_option maxRecDepth 100000 in
theorem Dive_is (w : World) : Calls Tryz.prog 22 #[] w fun e w' => ∃ A B, e = .returned (.agg #[.string ⟨#[112]⟩, .int .i64 1013, .slice A 2 2, .slice B 4 4]) ∧ SlRows gaV 2 w' A dG ∧ SlRows leV 3 w' B dD ∧ Below w.heap.size w w' := by
  go_enter Tryz.func22, Tryz.ntmps22
  go_wp2
  refine bodyPost_ret (v := .agg #[.string ⟨#[112]⟩, .int .i64 1013, .slice (some ⟨w.heap.size + 1, 0, none⟩) 2 2, .slice (some ⟨w.heap.size + 1 + 1, 0, none⟩) 4 4]) (by simp [results, Tryz.results22, go_sem]) rfl ⟨_, _, rfl, Or.inr ⟨_, 0, rfl, by simp, ?_⟩, Or.inr ⟨_, 0, rfl, by simp, ?_⟩, (by (repeat (first | (with_reducible refine Below.drew ?_) | (with_reducible refine below_drewN ?_ _) | (with_reducible refine Below.alloc ?_ (by first | omega | (simp; done) | (simp; omega) | (simp at *; omega)) _) | (with_reducible refine Below.setCell ?_ (by first | omega | (simp; done) | (simp; omega) | (simp at *; omega)) _) | (with_reducible exact Below.refl _ _) | (with_reducible assumption) | (with_reducible refine Below.trans ?_ (Below.mono (by assumption) (by first | omega | (simp; done) | (simp; omega) | (simp at *; omega)))))))⟩
  · intro k hk i hi
    have h1 : k = 0 ∨ k = 1 := by simp [dG] at hk; omega
    have h2 : i = 0 ∨ i = 1 := by omega
    rcases h1 with rfl | rfl <;> rcases h2 with rfl | rfl <;> simp [go_sem, dG, gaV, World.cell?_alloc_past]
  · intro k hk i hi
    have h1 : k = 0 ∨ k = 1 ∨ k = 2 ∨ k = 3 := by simp [dD] at hk; omega
    have h2 : i = 0 ∨ i = 1 ∨ i = 2 := by omega
    rcases h1 with rfl | rfl | rfl | rfl <;> rcases h2 with rfl | rfl | rfl <;> simp [go_sem, dD, leV, World.cell?_alloc_past]
set_option maxRecDepth 100000 in
theorem Rules_is (w : World) : Calls Tryz.prog 23 #[] w fun e w' => ∃ A, e = .returned (.agg #[.slice A 2 2, .int .i64 dR.a, .int .i64 dR.b, .int .i64 dR.nc, .int .i64 dR.dn, .int .i64 dR.br, .int .i64 dR.em, .int .i64 dR.pa, .int .i64 dR.sc]) ∧ SlRows oxV 2 w' A dT ∧ Below w.heap.size w w' := by
  go_enter Tryz.func23, Tryz.ntmps23
  go_wp2
  refine bodyPost_ret (v := .agg #[.slice (some ⟨w.heap.size + 1, 0, none⟩) 2 2, .int .i64 160, .int .i64 1400, .int .i64 3000, .int .i64 5200, .int .i64 20000, .int .i64 40000, .int .i64 60, .int .i64 1000]) (by simp [results, Tryz.results23, go_sem]) rfl ⟨_, rfl, Or.inr ⟨_, 0, rfl, by simp, ?_⟩, (by (repeat (first | (with_reducible refine Below.drew ?_) | (with_reducible refine below_drewN ?_ _) | (with_reducible refine Below.alloc ?_ (by first | omega | (simp; done) | (simp; omega) | (simp at *; omega)) _) | (with_reducible refine Below.setCell ?_ (by first | omega | (simp; done) | (simp; omega) | (simp at *; omega)) _) | (with_reducible exact Below.refl _ _) | (with_reducible assumption) | (with_reducible refine Below.trans ?_ (Below.mono (by assumption) (by first | omega | (simp; done) | (simp; omega) | (simp at *; omega)))))))⟩
  intro k hk i hi
  have h1 : k = 0 ∨ k = 1 := by simp [dT] at hk; omega
  have h2 : i = 0 ∨ i = 1 := by omega
  rcases h1 with rfl | rfl <;> rcases h2 with rfl | rfl <;> simp [go_sem, dT, oxV, World.cell?_alloc_past]
end Go.Proofs.YtijdphlejokijaaGreat

namespace Go.Proofs.YtijdphlejokijaaGreat
open Go.ChangeShapes Go.WideShapes Go.ChangeAt Go.RowKit
set_option linter.unusedVariables false
set_option linter.unusedSimpArgs false
attribute [local go_sem ↓] Go.wp_at_zero Go.wp_at_succ
set_option maxRecDepth 100000 in
set_option maxHeartbeats 4000000 in
theorem Ints_is (L M : List Int) (A B : Option Addr) (n m ca cb : Nat) (w : World) (hn : Hid (n = L.length)) (hm : Hid (m = M.length)) (hl : n ≤ 1000000) (hl2 : m ≤ 1000000) (hL : Hid (SlRows inV 1 w A L)) (hM : Hid (SlRows inV 1 w B M)) :
    Calls Tryz.prog 27 #[.slice A n ca, .slice B m cb] w fun e w' => e = .returned (.bool (decide (L = M))) ∧ Below w.heap.size w w' := by
  by_cases hnm : n = m
  · subst hnm
    go_enter Tryz.func27, Tryz.ntmps27
    go_wp2
    go_loopw [5] (fun i wr => ∃ k : Nat, k ≤ n ∧ i = .int .i64 k ∧ Hid (∀ j, j < k → L.getD j 0 = M.getD j 0) ∧ Below w.heap.size w wr) (fun i _ => n - (intOf i).toNat)
    case atStart => exact ⟨0, by omega, rfl, Lib.hid (fun j hj => absurd hj (Nat.not_lt_zero _)), (by (repeat (first | (with_reducible refine Below.drew ?_) | (with_reducible refine below_drewN ?_ _) | (with_reducible refine Below.alloc ?_ (by first | omega | (simp; done) | (simp; omega) | (simp at *; omega)) _) | (with_reducible refine Below.setCell ?_ (by first | omega | (simp; done) | (simp; omega) | (simp at *; omega)) _) | (with_reducible exact Below.refl _ _) | (with_reducible assumption) | (with_reducible refine Below.trans ?_ (Below.mono (by assumption) (by first | omega | (simp; done) | (simp; omega) | (simp at *; omega)))))))⟩
    case round =>
      obtain ⟨k, hk, rfl, hE, hB⟩ := hrel
      by_cases hkn : k < n
      · have kn : (k : Int) < (n : Int) := by omega
        have k0 : ¬ (k : Int) < 0 := by omega
        have kL : k < L.length := by have := hn.out; omega
        have kM : k < M.length := by have := hm.out; omega
        obtain ⟨ab, ao, rfl, la, ra⟩ := hL.out.at' kL
        obtain ⟨bb, bo, rfl, lb, rb⟩ := hM.out.at' kM
        obtain ⟨x, hx⟩ : ∃ z, Hid (L.getD k 0 = z) := ⟨_, Lib.hid rfl⟩
        obtain ⟨y, hy⟩ : ∃ z, Hid (M.getD k 0 = z) := ⟨_, Lib.hid rfl⟩
        have c0 := ra k kL 0 (by omega)
        have c1 := rb k kM 0 (by omega)
        rw [show (inV L[k])[0]? = some (.int .i64 x) by rw [← hx.out, List.getD_eq_getElem?_getD, List.getElem?_eq_getElem kL]; rfl] at c0
        rw [show (inV M[k])[0]? = some (.int .i64 y) by rw [← hy.out, List.getD_eq_getElem?_getD, List.getElem?_eq_getElem kM]; rfl] at c1
        have HS : Hid (∀ z, Below wr.heap.size wr z → z.cell? ⟨ab, ao + k * 1 + 0, none⟩ = some (.int .i64 x) ∧ z.cell? ⟨bb, bo + k * 1 + 0, none⟩ = some (.int .i64 y)) := Lib.hid fun z hz => ⟨((hB.trans (hz.mono hB.size)).cell (p := ⟨ab, _, none⟩) la).trans c0, ((hB.trans (hz.mono hB.size)).cell (p := ⟨bb, _, none⟩) lb).trans c1⟩
        have hwk : IntKind.i64.wrap ((k : Int) + 1) = (k : Int) + 1 := IntWalk.i64_in _ (by omega)
        clear c0 c1 ra rb
        go_upto_region 6 with (fail)
        refine wp_region_held_drew (S := (fun w' => w'.cell? ⟨ab, ao + k * 1 + 0, none⟩ = some (.int .i64 x) ∧ w'.cell? ⟨bb, bo + k * 1 + 0, none⟩ = some (.int .i64 y))) (by kernel_rfl) (HS.out _ (Below.refl _ _).drew) (fun hHeld => ?_)
        have hT0 : Below wr.heap.size wr wr.drew := (Below.refl _ _).drew
        generalize hdr : wr.drew = v0 at *
        clear hdr
        refine tkH 0 ⟨some 17, _, _, _, _, _⟩ ?_ rfl ?_ (by assumption) ?_
        rotate_left
        · (intro w hSw; (try dsimp only at hSw); go_simp; all_goals with_reducible rfl)
        try simp only [Act.put, sA, sB, sC]
        refine tkH 1 ⟨some 18, _, _, _, _, _⟩ ?_ rfl ?_ (by assumption) ?_
        rotate_left
        · (intro w hSw; (try dsimp only at hSw); go_simp; all_goals with_reducible rfl)
        try simp only [Act.put, sA, sB, sC]
        refine tkH 2 ⟨some 19, _, _, _, _, _⟩ ?_ rfl ?_ (by assumption) ?_
        rotate_left
        · (intro w hSw; (try dsimp only at hSw); obtain ⟨s0, s1⟩ := hSw; simp only [Nat.mul_one, Nat.add_zero] at s0 s1; go_simp; all_goals with_reducible rfl)
        try simp only [Act.put, sA, sB, sC]
        refine tkH 3 ⟨some 20, _, _, _, _, _⟩ ?_ rfl ?_ (by assumption) ?_
        rotate_left
        · (intro w hSw; (try dsimp only at hSw); obtain ⟨s0, s1⟩ := hSw; simp only [Nat.mul_one, Nat.add_zero] at s0 s1; go_simp; all_goals with_reducible rfl)
        try simp only [Act.put, sA, sB, sC]
        refine tkH 4 ⟨some 21, _, _, _, _, _⟩ ?_ rfl ?_ (by assumption) ?_
        rotate_left
        · (intro w hSw; (try dsimp only at hSw); go_simp; all_goals with_reducible rfl)
        try simp only [Act.put, sA, sB, sC]
        refine tkH 5 ⟨some 22, _, _, _, _, _⟩ ?_ rfl ?_ (by assumption) ?_
        rotate_left
        · (intro w hSw; (try dsimp only at hSw); go_simp; all_goals with_reducible rfl)
        try simp only [Act.put, sA, sB, sC]
        refine tkH 6 ⟨some 23, _, _, _, _, _⟩ ?_ rfl ?_ (by assumption) ?_
        rotate_left
        · (intro w hSw; (try dsimp only at hSw); obtain ⟨s0, s1⟩ := hSw; simp only [Nat.mul_one, Nat.add_zero] at s0 s1; go_simp; all_goals with_reducible rfl)
        try simp only [Act.put, sA, sB, sC]
        refine tkH 7 ⟨some 24, _, _, _, _, _⟩ ?_ rfl ?_ (by assumption) ?_
        rotate_left
        · (intro w hSw; (try dsimp only at hSw); obtain ⟨s0, s1⟩ := hSw; simp only [Nat.mul_one, Nat.add_zero] at s0 s1; go_simp; all_goals with_reducible rfl)
        try simp only [Act.put, sA, sB, sC]
        refine tkH 8 ⟨some 25, _, _, _, _, _⟩ ?_ rfl ?_ (by assumption) ?_
        rotate_left
        · (intro w hSw; (try dsimp only at hSw); obtain ⟨s0, s1⟩ := hSw; simp only [Nat.mul_one, Nat.add_zero] at s0 s1; go_simp; all_goals with_reducible rfl)
        try simp only [Act.put, sA, sB, sC]
        refine wpAnyH_done (by kernel_rfl) ?_ _
        have hT := hT0
        obtain ⟨z, rfl⟩ : ∃ z, z = v0 := ⟨_, rfl⟩
        clear hHeld HS
        have hBz := Lib.hid (hB.trans (hT.mono hB.size))
        clear hT
        by_cases hxy : x = y
        · have hxy2 : (x != y) = false := by simp [hxy]
          go_wp2
          go_roundw
          case rel => exact ⟨k + 1, by omega, by go_num, Lib.hid (fun j hj => by
            by_cases e : j = k
            · subst e; rw [hx.out, hy.out]; exact hxy
            · exact hE.out j (by omega)), hBz.out⟩
          case measure => simp [intOf]; omega
        · have hxy2 : (x != y) = true := by simp [hxy]
          have hne : Hid (decide (L = M) = false) := Lib.hid (by
            rw [decide_eq_false_iff_not]
            intro e
            exact hxy (by rw [← hx.out, ← hy.out, e]))
          go_wp2
          refine bodyPost_ret (results_tmp rfl _ _ _) rfl ?_
          exact ⟨ret_bool hne.out.symm, hBz.out⟩
      · have kn : ¬ (k : Int) < (n : Int) := by omega
        have hkk : k = n := by omega
        have heq : Hid (decide (L = M) = true) := Lib.hid (by
          rw [decide_eq_true_eq]
          refine List.ext_getElem (by have := hn.out; have := hm.out; omega) (fun j h1 h2 => ?_)
          have h := hE.out j (by have := hn.out; omega)
          rw [List.getD_eq_getElem?_getD, List.getD_eq_getElem?_getD, List.getElem?_eq_getElem h1, List.getElem?_eq_getElem h2] at h
          exact h)
        go_wp2
        refine bodyPost_ret (results_tmp rfl _ _ _) rfl ?_
        exact ⟨ret_bool heq.out.symm, hB⟩
  · have h1 : ((n : Int) != (m : Int)) = true := by simp; omega
    have hne : Hid (decide (L = M) = false) := Lib.hid (by
      rw [decide_eq_false_iff_not]
      intro e
      have h1 := hn.out
      have h2 := hm.out
      rw [e] at h1
      omega)
    go_enter Tryz.func27, Tryz.ntmps27
    go_wp2
    refine bodyPost_ret (results_tmp rfl _ _ _) rfl ?_
    exact ⟨ret_bool hne.out.symm, Below.refl _ _⟩
end Go.Proofs.YtijdphlejokijaaGreat
