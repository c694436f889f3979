import Derived.Test.YtgidmmmdpmophaaRSFEAwk1
import Derived.Outline
namespace Go.Proofs.Ytgidmmmdpmophaa
open Go.ChangeShapes Go.WideShapes Go.ChangeAt Go.RowKit
set_option linter.unusedVariables false
set_option linter.unusedSimpArgs false
attribute [local go_sem ↓] Go.wp_at_zero Go.wp_at_succ
set_option maxRecDepth 100000 in
set_option maxHeartbeats 4000000 in
theorem Ints_is (L M : List Int) (A B : Option Addr) (n m ca cb : Nat) (w : World) (hn : Hid (n = L.length)) (hm : Hid (m = M.length)) (hl : n ≤ 1000000) (hl2 : m ≤ 1000000) (hL : Hid (SlRows inV 1 w A L)) (hM : Hid (SlRows inV 1 w B M)) :
    Calls Try.prog 21 #[.slice A n ca, .slice B m cb] w fun e w' => e = .returned (.bool (decide (L = M))) ∧ Below w.heap.size w w' := by
  by_cases hnm : n = m
  · subst hnm
    go_enter Try.func21, Try.ntmps21
    go_wp2
    go_loopw [5] (fun i wr => ∃ k : Nat, k ≤ n ∧ i = .int .i64 k ∧ Hid (∀ j, j < k → L.getD j 0 = M.getD j 0) ∧ Below w.heap.size w wr) (fun i _ => n - (intOf i).toNat)
    case atStart => exact ⟨0, by omega, rfl, Lib.hid (fun j hj => absurd hj (Nat.not_lt_zero _)), (by (repeat (first | (with_reducible refine Below.drew ?_) | (with_reducible refine below_drewN ?_ _) | (with_reducible refine Below.alloc ?_ (by first | omega | (simp; done) | (simp; omega) | (simp at *; omega)) _) | (with_reducible refine Below.setCell ?_ (by first | omega | (simp; done) | (simp; omega) | (simp at *; omega)) _) | (with_reducible exact Below.refl _ _) | (with_reducible assumption) | (with_reducible refine Below.trans ?_ (Below.mono (by assumption) (by first | omega | (simp; done) | (simp; omega) | (simp at *; omega)))))))⟩
    case round =>
      obtain ⟨k, hk, rfl, hE, hB⟩ := hrel
      by_cases hkn : k < n
      · have kn : (k : Int) < (n : Int) := by omega
        have k0 : ¬ (k : Int) < 0 := by omega
        have kL : k < L.length := by have := hn.out; omega
        have kM : k < M.length := by have := hm.out; omega
        obtain ⟨ab, ao, rfl, la, ra⟩ := hL.out.at' kL
        obtain ⟨bb, bo, rfl, lb, rb⟩ := hM.out.at' kM
        obtain ⟨x, hx⟩ : ∃ z, Hid (L.getD k 0 = z) := ⟨_, Lib.hid rfl⟩
        obtain ⟨y, hy⟩ : ∃ z, Hid (M.getD k 0 = z) := ⟨_, Lib.hid rfl⟩
        have c0 := ra k kL 0 (by omega)
        have c1 := rb k kM 0 (by omega)
        rw [show (inV L[k])[0]? = some (.int .i64 x) by rw [← hx.out, List.getD_eq_getElem?_getD, List.getElem?_eq_getElem kL]; rfl] at c0
        rw [show (inV M[k])[0]? = some (.int .i64 y) by rw [← hy.out, List.getD_eq_getElem?_getD, List.getElem?_eq_getElem kM]; rfl] at c1
        have HS : Hid (∀ z, Below wr.heap.size wr z → z.cell? ⟨ab, ao + k * 1 + 0, none⟩ = some (.int .i64 x) ∧ z.cell? ⟨bb, bo + k * 1 + 0, none⟩ = some (.int .i64 y)) := Lib.hid fun z hz => ⟨((hB.trans (hz.mono hB.size)).cell (p := ⟨ab, _, none⟩) la).trans c0, ((hB.trans (hz.mono hB.size)).cell (p := ⟨bb, _, none⟩) lb).trans c1⟩
        have hwk : IntKind.i64.wrap ((k : Int) + 1) = (k : Int) + 1 := IntWalk.i64_in _ (by omega)
        clear c0 c1 ra rb
        go_upto_region 6 with (fail)
        refine wp_region_held_drew (S := (fun w' => w'.cell? ⟨ab, ao + k * 1 + 0, none⟩ = some (.int .i64 x) ∧ w'.cell? ⟨bb, bo + k * 1 + 0, none⟩ = some (.int .i64 y))) (by kernel_rfl) (HS.out _ (Below.refl _ _).drew) (fun hHeld => ?_)
        have hT0 : Below wr.heap.size wr wr.drew := (Below.refl _ _).drew
        generalize hdr : wr.drew = v0 at *
        clear hdr
        refine tkH 0 ⟨some 17, _, _, _, _, _⟩ ?_ rfl ?_ (by assumption) ?_
        rotate_left
        · (intro w hSw; (try dsimp only at hSw); go_simp; all_goals with_reducible rfl)
        try simp only [Act.put, sA, sB, sC]
        refine tkH 1 ⟨some 18, _, _, _, _, _⟩ ?_ rfl ?_ (by assumption) ?_
        rotate_left
        · (intro w hSw; (try dsimp only at hSw); go_simp; all_goals with_reducible rfl)
        try simp only [Act.put, sA, sB, sC]
        refine tkH 2 ⟨some 19, _, _, _, _, _⟩ ?_ rfl ?_ (by assumption) ?_
        rotate_left
        · (intro w hSw; (try dsimp only at hSw); obtain ⟨s0, s1⟩ := hSw; simp only [Nat.mul_one, Nat.add_zero] at s0 s1; go_simp; all_goals with_reducible rfl)
        try simp only [Act.put, sA, sB, sC]
        refine tkH 3 ⟨some 20, _, _, _, _, _⟩ ?_ rfl ?_ (by assumption) ?_
        rotate_left
        · (intro w hSw; (try dsimp only at hSw); obtain ⟨s0, s1⟩ := hSw; simp only [Nat.mul_one, Nat.add_zero] at s0 s1; go_simp; all_goals with_reducible rfl)
        try simp only [Act.put, sA, sB, sC]
        refine tkH 4 ⟨some 21, _, _, _, _, _⟩ ?_ rfl ?_ (by assumption) ?_
        rotate_left
        · (intro w hSw; (try dsimp only at hSw); go_simp; all_goals with_reducible rfl)
        try simp only [Act.put, sA, sB, sC]
        refine tkH 5 ⟨some 22, _, _, _, _, _⟩ ?_ rfl ?_ (by assumption) ?_
        rotate_left
        · (intro w hSw; (try dsimp only at hSw); go_simp; all_goals with_reducible rfl)
        try simp only [Act.put, sA, sB, sC]
        refine tkH 6 ⟨some 23, _, _, _, _, _⟩ ?_ rfl ?_ (by assumption) ?_
        rotate_left
        · (intro w hSw; (try dsimp only at hSw); obtain ⟨s0, s1⟩ := hSw; simp only [Nat.mul_one, Nat.add_zero] at s0 s1; go_simp; all_goals with_reducible rfl)
        try simp only [Act.put, sA, sB, sC]
        refine tkH 7 ⟨some 24, _, _, _, _, _⟩ ?_ rfl ?_ (by assumption) ?_
        rotate_left
        · (intro w hSw; (try dsimp only at hSw); obtain ⟨s0, s1⟩ := hSw; simp only [Nat.mul_one, Nat.add_zero] at s0 s1; go_simp; all_goals with_reducible rfl)
        try simp only [Act.put, sA, sB, sC]
        refine tkH 8 ⟨some 25, _, _, _, _, _⟩ ?_ rfl ?_ (by assumption) ?_
        rotate_left
        · (intro w hSw; (try dsimp only at hSw); obtain ⟨s0, s1⟩ := hSw; simp only [Nat.mul_one, Nat.add_zero] at s0 s1; go_simp; all_goals with_reducible rfl)
        try simp only [Act.put, sA, sB, sC]
        refine wpAnyH_done (by kernel_rfl) ?_ _
        have hT := hT0
        obtain ⟨z, rfl⟩ : ∃ z, z = v0 := ⟨_, rfl⟩
        clear hHeld HS
        have hBz := Lib.hid (hB.trans (hT.mono hB.size))
        clear hT
        by_cases hxy : x = y
        · have hxy2 : (x != y) = false := by simp [hxy]
          go_wp2
          go_roundw
          case rel => exact ⟨k + 1, by omega, by go_num, Lib.hid (fun j hj => by
            by_cases e : j = k
            · subst e; rw [hx.out, hy.out]; exact hxy
            · exact hE.out j (by omega)), hBz.out⟩
          case measure => simp [intOf]; omega
        · have hxy2 : (x != y) = true := by simp [hxy]
          have hne : Hid (decide (L = M) = false) := Lib.hid (by
            rw [decide_eq_false_iff_not]
            intro e
            exact hxy (by rw [← hx.out, ← hy.out, e]))
          go_wp2
          refine bodyPost_ret (results_tmp rfl _ _ _) rfl ?_
          exact ⟨ret_bool hne.out.symm, hBz.out⟩
      · have kn : ¬ (k : Int) < (n : Int) := by omega
        have hkk : k = n := by omega
        have heq : Hid (decide (L = M) = true) := Lib.hid (by
          rw [decide_eq_true_eq]
          refine List.ext_getElem (by have := hn.out; have := hm.out; omega) (fun j h1 h2 => ?_)
          have h := hE.out j (by have := hn.out; omega)
          rw [List.getD_eq_getElem?_getD, List.getD_eq_getElem?_getD, List.getElem?_eq_getElem h1, List.getElem?_eq_getElem h2] at h
          exact h)
        go_wp2
        refine bodyPost_ret (results_tmp rfl _ _ _) rfl ?_
        exact ⟨ret_bool heq.out.symm, hB⟩
  · have h1 : ((n : Int) != (m : Int)) = true := by simp; omega
    have hne : Hid (decide (L = M) = false) := Lib.hid (by
      rw [decide_eq_false_iff_not]
      intro e
      have h1 := hn.out
      have h2 := hm.out
      rw [e] at h1
      omega)
    go_enter Try.func21, Try.ntmps21
    go_wp2
    refine bodyPost_ret (results_tmp rfl _ _ _) rfl ?_
    exact ⟨ret_bool hne.out.symm, Below.refl _ _⟩
end Go.Proofs.Ytgidmmmdpmophaa
