import Derived.Test.YtojaompfffpofaaGreatZCSLeast
import Derived.Test.YtojaompfffpofaaGreatZCSLawNs
import Derived.Outline
namespace Go.Proofs.YtojaompfffpofaaGreat
open Go.ChangeShapes Go.WideShapes Go.ChangeAt Go.RowKit
set_option linter.unusedVariables false
set_option linter.unusedSimpArgs false
attribute [local go_sem ↓] Go.wp_at_zero Go.wp_at_succ
theorem hasNo_is (K : List Int) (s : Int) (A : Option Addr) (n cap : Nat) (w : World) (hn : Hid (n = K.length)) (hl : n ≤ 1000000) (HP : Hid (SlRows intV 1 w A K)) (hp : Hid (¬ s ∈ K)) :
    Calls Tryz.prog 100 #[.slice A n cap, .int .i64 s] w fun e w' => e = .returned (.bool false) ∧ w = w' := by
  go_enter Tryz.func100, Tryz.ntmps100
  go_wp2
  go_loop [5] (fun i => ∃ k : Nat, k ≤ n ∧ i = .int .i64 k) (fun i => n - (intOf i).toNat)
  case atStart => exact ⟨0, by omega, rfl⟩
  case round =>
    obtain ⟨k, hk, rfl⟩ := hrel
    by_cases hkn : k < n
    · have kn : (k : Int) < (n : Int) := by omega
      have hkl : k < K.length := by have := hn.out; omega
      rcases HP.out with h0 | ⟨b, off, rfl, hlt, hR⟩
      · rw [h0] at hkl; simp at hkl
      have c0 := hR k hkl 0 (by omega)
      rw [show (intV K[k])[0]? = some (.int .i64 K[k]) from rfl, Nat.add_zero, Nat.mul_one] at c0
      have hne : ¬ K[k] = s := fun e => hp.out (e ▸ List.getElem_mem hkl)
      obtain ⟨t, ht⟩ : ∃ t, Hid (K[k] = t) := ⟨_, Lib.hid rfl⟩
      rw [ht.out] at c0 hne
      clear hR
      have e3 : (t == s) = false := by simpa using hne
      go_wp2
      go_round
      case rel => exact ⟨k + 1, by omega, by go_num⟩
      case measure => (simp [intOf]) <;> omega
    · have kn : ¬ (k : Int) < (n : Int) := by omega
      go_wp2
      go_ret
      exact ⟨rfl, rfl⟩
set_option maxRecDepth 100000 in
set_option maxHeartbeats 8000000 in
theorem MinutesOf_is (A B : Option Addr) (n ca cb : Nat) (Pl : List ByteArray) (M : List (List Int)) (P : List Int) (g o cap ll : Nat) (E : Int) (w : World) (hl : n ≤ 12) (HC : Hid (ChSl w A B n Pl M)) (hgl : g < w.heap.size) (HR : Hid (RowsAt intV 1 w g o P)) (hll : Hid (P.length = ll)) (hl12 : ll ≤ 12) (hcp : ll ≤ cap) (hbd : Hid (∀ x ∈ P, 0 ≤ x ∧ x < (n : Int))) (hok : Hid (wOk M P)) (hnd : Hid P.Nodup) (hE : Hid (wSum M P = E)) :
    Calls Tryz.prog 48 #[.agg #[.slice A n ca, .slice B n cb], .slice (some ⟨g, o, none⟩) ll cap] w fun e w' => e = .returned (.int .i64 E) ∧ Below w.heap.size w w' := by
  have w1 : IntKind.i64.wrap ((n : Int) - 1) = (n : Int) - 1 := IntWalk.i64_in _ (by omega)
  go_enter Tryz.func48, Tryz.ntmps48
  go_upto_region 1 with (fail)
  refine wp_world (ChS A B n n ca cb w) ⟨by simp [go_sem], by simp [go_sem], (by (repeat (first | (with_reducible refine Below.drew ?_) | (with_reducible refine below_drewN ?_ _) | (with_reducible refine Below.alloc ?_ (by first | omega | (simp; done) | (simp; omega) | (simp at *; omega)) _) | (with_reducible refine Below.setCell ?_ (by first | omega | (simp; done) | (simp; omega) | (simp at *; omega)) _) | (with_reducible exact Below.refl _ _) | (with_reducible assumption) | (with_reducible refine Below.trans ?_ (Below.mono (by assumption) (by first | omega | (simp; done) | (simp; omega) | (simp at *; omega))))))), by simp⟩ (fun u hu => ?_)
  have HU := Lib.hid hu
  have HS : Hid (∀ x, Below u.heap.size u x → ChS A B n n ca cb w x) := Lib.hid fun x hx => HU.out.below hx
  have HCX : Hid (∀ x, Below u.heap.size u x → ChSl x A B n Pl M) := Lib.hid fun x hx => HC.out.below (HU.out.below hx).be
  have HPX : Hid (∀ x, Below u.heap.size u x → SlRows intV 1 x (some ⟨g, o, none⟩) P) := Lib.hid fun x hx => SlRows.below (.inr ⟨g, o, rfl, hgl, HR.out⟩) (HU.out.below hx).be
  have HV : Hid (∀ x, Below u.heap.size u x → ∀ k, k < ll → x.cell? ⟨g, o + k, none⟩ = some (.int .i64 (P.getD k 0))) := Lib.hid fun x hx k hk => by
    have hkQ : k < P.length := by have := hll.out; omega
    have := (HR.out.below (HU.out.below hx).be hgl) k hkQ 0 (by omega)
    rw [Nat.mul_one, Nat.add_zero] at this; rw [this, getD_at hkQ]; rfl
  obtain ⟨c0, c1, hBe, hlt⟩ := hu
  go_wp2
  go_loopw [5, 6] (fun s i wr => ∃ (k : Nat) (S : Int), k ≤ ll ∧ i = .int .i64 k ∧ s = .int .i64 S ∧ Hid (S = wSum M (P.take k)) ∧ 0 ≤ S ∧ S ≤ 10000 * (k : Int) ∧ Below u.heap.size u wr) (fun _ i _ => ll - (intOf i).toNat)
  case atStart => exact ⟨0, 0, by omega, rfl, rfl, Lib.hid rfl, by omega, by omega, (by (repeat (first | (with_reducible refine Below.drew ?_) | (with_reducible refine below_drewN ?_ _) | (with_reducible refine Below.alloc ?_ (by first | omega | (simp; done) | (simp; omega) | (simp at *; omega)) _) | (with_reducible refine Below.setCell ?_ (by first | omega | (simp; done) | (simp; omega) | (simp at *; omega)) _) | (with_reducible exact Below.refl _ _) | (with_reducible assumption) | (with_reducible refine Below.trans ?_ (Below.mono (by assumption) (by first | omega | (simp; done) | (simp; omega) | (simp at *; omega)))))))⟩
  case round =>
    obtain ⟨k, S, hk, rfl, rfl, hS, s0, s1, hB⟩ := hrel
    clear c0 c1 hBe hlt
    obtain ⟨c0, c1, hBe, hlt⟩ := HS.out _ hB
    have hsz' := hB.size
    by_cases hkL : k < ll
    · have kn : (k : Int) < (ll : Int) := by omega
      have hkQ : k < P.length := by have := hll.out; omega
      have hvb := hbd.out P[k] (List.getElem_mem hkQ)
      have hno : Hid (¬ P[k] ∈ P.take k) := Lib.hid fun h => by
        have h9 := hnd.out
        rw [← List.take_append_drop k P, List.drop_eq_getElem_cons hkQ, List.nodup_append] at h9
        exact h9.2.2 P[k] h P[k] (List.mem_cons.2 (Or.inl rfl)) rfl
      rw [← getD_at (d := 0) hkQ] at hvb hno
      obtain ⟨v, hv⟩ : ∃ v, Hid (P.getD k 0 = v) := ⟨_, Lib.hid rfl⟩
      have cv0 := HV.out _ hB k hkL
      rw [hv.out] at cv0 hvb hno
      obtain ⟨v0, v1⟩ := hvb
      have hb : Hid (inB v 0 ((n : Int) - 1) = true) := Lib.hid (inB_true v0 (by omega))
      have HPT : Hid (∀ x, Below wr.heap.size wr x → SlRows intV 1 x (some ⟨g, o, none⟩) (P.take k)) := Lib.hid fun x hx => SlRows.part (HPX.out x (hB.trans (hx.mono hsz'))) k
      have htl : Hid (k = (P.take k).length) := Lib.hid (by rw [List.length_take]; omega)
      have kc2 : (k : Int) ≤ (cap : Int) := by omega
      have hsl : ∀ x : World, (Instr.slice 81 (.slice (some ⟨g, o, none⟩) ll cap) none (some (.int .i64 k)) none).run Tryz.prog x = .ok (.slice (some ⟨g, o, none⟩) k cap) x := fun x => by simp [go_sem, kc2, Addr.add]
      go_upto_region 5 with (fail)
      refine wp_region_held_drew (S := (fun w' => w'.cell? ⟨w.heap.size, 0, none⟩ = some (.slice A n ca) ∧ w'.cell? ⟨g, o + k, none⟩ = some (.int .i64 v))) (by kernel_rfl) (by simp [go_sem, World.cell?_alloc_past, *]) (fun hHeld => ?_)
      refine tkH 0 ⟨some 14, _, _, _, _, _⟩ ?_ rfl ?_ (by assumption) ?_
      rotate_left
      · (intro w hSw; (try dsimp only at hSw); go_simp; all_goals with_reducible rfl)
      try simp only [Act.put, sA, sB, sC]
      refine tkH 1 ⟨some 15, _, _, _, _, _⟩ ?_ rfl ?_ (by assumption) ?_
      rotate_left
      · (intro w hSw; (try dsimp only at hSw); go_simp; all_goals with_reducible rfl)
      try simp only [Act.put, sA, sB, sC]
      refine tkH 2 ⟨some 16, _, _, _, _, _⟩ ?_ rfl ?_ (by assumption) ?_
      rotate_left
      · (intro w hSw; (try dsimp only at hSw); go_simp; all_goals with_reducible rfl)
      try simp only [Act.put, sA, sB, sC]
      refine tkH 3 ⟨some 17, _, _, _, _, _⟩ ?_ rfl ?_ (by assumption) ?_
      rotate_left
      · (intro w hSw; (try dsimp only at hSw); go_simp; all_goals with_reducible rfl)
      try simp only [Act.put, sA, sB, sC]
      refine tkH 4 ⟨some 18, _, _, _, _, _⟩ ?_ rfl ?_ (by assumption) ?_
      rotate_left
      · (intro w hSw; (try dsimp only at hSw); go_simp; all_goals with_reducible rfl)
      try simp only [Act.put, sA, sB, sC]
      refine tkH 5 ⟨some 19, _, _, _, _, _⟩ ?_ rfl ?_ (by assumption) ?_
      rotate_left
      · (intro w hSw; (try dsimp only at hSw); go_simp; all_goals with_reducible rfl)
      try simp only [Act.put, sA, sB, sC]
      refine tkH 6 ⟨some 20, _, _, _, _, _⟩ ?_ rfl ?_ (by assumption) ?_
      rotate_left
      · (intro w hSw; (try dsimp only at hSw); go_simp; all_goals with_reducible rfl)
      try simp only [Act.put, sA, sB, sC]
      refine tkH 7 ⟨some 21, _, _, _, _, _⟩ ?_ rfl ?_ (by assumption) ?_
      rotate_left
      · (intro w hSw; (try dsimp only at hSw); go_simp; all_goals with_reducible rfl)
      try simp only [Act.put, sA, sB, sC]
      refine wpAnyH_ready (rs := [8]) (by kernel_rfl) (by simp) ?_
      refine AllReadyH.cons rfl (fun K hK => ?_) AllReadyH.nil
      go_simp
      refine (bw_is v 0 ((n : Int) - 1) true _ hb).mono ?_
      rintro e w' ⟨rfl, rfl⟩
      go_wp2_with fail
      refine hK.out _ _ (by simp [go_sem, World.cell?_alloc_past, *]) (fun hHeld => ?_)
      clear hK K
      try simp only [Act.put, sA, sB, sC]
      refine tkH 9 ⟨some 23, _, _, _, _, _⟩ ?_ rfl ?_ (by assumption) ?_
      rotate_left
      · (intro w hSw; (try dsimp only at hSw); go_simp; all_goals with_reducible rfl)
      try simp only [Act.put, sA, sB, sC]
      refine tkH 10 ⟨some 24, _, _, _, _, _⟩ ?_ rfl ?_ (by assumption) ?_
      rotate_left
      · (intro w hSw; (try dsimp only at hSw); go_simp; all_goals with_reducible rfl)
      try simp only [Act.put, sA, sB, sC]
      refine tkH 11 ⟨some 25, _, _, _, _, _⟩ ?_ rfl ?_ (by assumption) ?_
      rotate_left
      · (intro w hSw; (try dsimp only at hSw); go_simp; all_goals with_reducible rfl)
      try simp only [Act.put, sA, sB, sC]
      refine tkH 12 ⟨some 26, _, _, _, _, _⟩ ?_ rfl ?_ (by assumption) ?_
      rotate_left
      · (intro w hSw; (try dsimp only at hSw); go_simp; all_goals with_reducible rfl)
      try simp only [Act.put, sA, sB, sC]
      refine tkH 13 ⟨some 27, _, _, _, _, _⟩ ?_ rfl ?_ (by assumption) ?_
      rotate_left
      · (intro w hSw; (try dsimp only at hSw); go_simp; all_goals with_reducible rfl)
      try simp only [Act.put, sA, sB, sC]
      refine tkH 14 ⟨some 28, _, _, _, _, _⟩ ?_ rfl ?_ (by assumption) ?_
      rotate_left
      · (intro w hSw; (try dsimp only at hSw); go_simp; all_goals with_reducible rfl)
      try simp only [Act.put, sA, sB, sC]
      refine tkH 15 ⟨some 29, _, _, _, _, _⟩ ?_ rfl ?_ (by assumption) ?_
      rotate_left
      · (intro w hSw; (try dsimp only at hSw); go_simp; all_goals with_reducible rfl)
      try simp only [Act.put, sA, sB, sC]
      refine tkH 16 ⟨some 30, _, _, _, _, _⟩ ?_ rfl ?_ (by assumption) ?_
      rotate_left
      · (intro w hSw; (try dsimp only at hSw); go_simp; all_goals with_reducible rfl)
      try simp only [Act.put, sA, sB, sC]
      refine tkH 17 ⟨some 31, _, _, _, _, _⟩ ?_ rfl ?_ (by assumption) ?_
      rotate_left
      · (intro w hSw; (try dsimp only at hSw); go_simp; all_goals with_reducible rfl)
      try simp only [Act.put, sA, sB, sC]
      refine wpAnyH_ready (rs := [18]) (by kernel_rfl) (by simp) ?_
      refine AllReadyH.cons rfl (fun K hK => ?_) AllReadyH.nil
      go_simp
      refine (hasNo_is (P.take k) v (some ⟨g, o, none⟩) k cap _ htl (by omega) (Lib.hid (HPT.out _ (by (repeat (first | (with_reducible refine Below.drew ?_) | (with_reducible refine below_drewN ?_ _) | (with_reducible refine Below.alloc ?_ (by first | omega | (simp; done) | (simp; omega) | (simp at *; omega)) _) | (with_reducible refine Below.setCell ?_ (by first | omega | (simp; done) | (simp; omega) | (simp at *; omega)) _) | (with_reducible exact Below.refl _ _) | (with_reducible assumption) | (with_reducible refine Below.trans ?_ (Below.mono (by assumption) (by first | omega | (simp; done) | (simp; omega) | (simp at *; omega))))))))) hno).mono ?_
      rintro e w' ⟨rfl, rfl⟩
      go_wp2_with fail
      refine hK.out _ _ (by simp [go_sem, World.cell?_alloc_past, *]) (fun hHeld => ?_)
      clear hK K
      try simp only [Act.put, sA, sB, sC]
      refine tkH 19 ⟨some 33, _, _, _, _, _⟩ ?_ rfl ?_ (by assumption) ?_
      rotate_left
      · (intro w hSw; (try dsimp only at hSw); go_simp; all_goals with_reducible rfl)
      try simp only [Act.put, sA, sB, sC]
      refine wpAnyH_done (by kernel_rfl) ?_ _
      by_cases hk0 : k = 0
      · subst hk0
        have HBd := Lib.hid (hB.drew)
        go_wp2
        go_roundw
        case rel => exact ⟨1, S, by omega, by go_num, rfl, Lib.hid (by rw [hS.out]; cases P with | nil => rfl | cons a r => rfl), s0, by omega, HBd.out⟩
        case measure => simp [intOf]; omega
      · obtain ⟨q, rfl⟩ : ∃ q, k = q + 1 := ⟨k - 1, by omega⟩
        have kp : (0 : Int) < ((q + 1 : Nat) : Int) := by omega
        have w2' : IntKind.i64.wrap (q : Int) = (q : Int) := IntWalk.i64_in _ (by omega)
        have w2'' : IntKind.i64.wrap ((q : Int) + 1 - 1) = (q : Int) := by rw [IntWalk.i64_in _ (by omega)]; omega
        have kq : (q : Int) < (ll : Int) := by omega
        have kn2 : (q : Int) + 1 < (ll : Int) := by omega
        have kn3 : (0 : Int) ≤ (q : Int) + 1 := by omega
        obtain ⟨p2, hp2⟩ : ∃ p : Nat, v = (p : Int) := ⟨v.toNat, by omega⟩
        subst hp2
        have hqP : q < P.length := by omega
        obtain ⟨pv0, pv1⟩ := hbd.out (P.getD q 0) (by rw [getD_at hqP]; exact List.getElem_mem hqP)
        obtain ⟨p, hp⟩ : ∃ p : Nat, P.getD q 0 = (p : Int) := ⟨(P.getD q 0).toNat, by omega⟩
        have cq0 := HV.out _ hB q (by omega)
        rw [hp] at cq0
        have hpn : p < n := by omega
        have hp2n : p2 < n := by omega
        have HCW := HCX.out _ hB
        obtain ⟨mb, mo, C, cr, eB, lm, g1, csp, lr, g2⟩ := HCW.at hpn
        obtain ⟨rb, ro, sp⟩ := C
        dsimp only at csp lr g2
        subst csp
        subst eB
        have g3 := g2 p2 hp2n
        have hbnd := HCW.ok.bnd p p2 (by rw [← HCW.hn]; exact hpn) (by rw [← HCW.hn]; exact hp2n)
        obtain ⟨t1, t2⟩ := take_snocW (M := M) hkQ
        rw [hp, hv.out, show stp M (p : Int) (p2 : Int) = mAt M p p2 from rfl] at t1 t2
        have hm0 : 0 ≤ mAt M p p2 := by
          refine (t2.1 ?_).2
          have h9 := hok.out
          rcases Nat.lt_or_ge (q + 1 + 1) P.length with hlt9 | hge9
          · rw [← List.take_append_drop (q + 1 + 1) P, List.drop_eq_getElem_cons hlt9] at h9
            have h8 := ((wOk_app M _ _ _).1 h9).1
            have h7 : ∀ (l : List Int) (a : Int), wOk M (l ++ [a]) → wOk M l := fun l => by
              induction l with
              | nil => intro _ _; trivial
              | cons x r ih =>
                cases r with
                | nil => intro _ _; trivial
                | cons y s => intro a h; exact ⟨h.1, ih a h.2⟩
            exact h7 _ _ h8
          · rw [List.take_of_length_le hge9]; exact h9
        obtain ⟨mm, hmm⟩ : ∃ x, Hid (mAt M p p2 = x) := ⟨_, Lib.hid rfl⟩
        rw [hmm.out] at g3 hbnd t1 t2 hm0
        have e1 : (p : Int) < (n : Int) := by omega
        have e2 : (p2 : Int) < (n : Int) := by omega
        have T1 := Lib.hid t1
        clear HCW g2 t1 t2
        go_upto_region 8 with (fail)
        refine wp_region_held_drew (S := (fun w' => w'.cell? ⟨w.heap.size, 1, none⟩ = some (.slice (some ⟨mb, mo, none⟩) n cb) ∧ w'.cell? ⟨g, o + q, none⟩ = some (.int .i64 (p : Nat)) ∧ w'.cell? ⟨g, o + (q + 1), none⟩ = some (.int .i64 (p2 : Nat)) ∧ w'.cell? ⟨mb, mo + p, none⟩ = some (.slice (some ⟨rb, ro, none⟩) n cr) ∧ w'.cell? ⟨rb, ro + p2, none⟩ = some (.int .i64 mm))) (by kernel_rfl) (by simp [go_sem, World.cell?_alloc_past, *]) (fun hHeld => ?_)
        refine tkH 0 ⟨some 36, _, _, _, _, _⟩ ?_ rfl ?_ (by assumption) ?_
        rotate_left
        · (intro w hSw; (try dsimp only at hSw); go_simp; all_goals with_reducible rfl)
        try simp only [Act.put, sA, sB, sC]
        refine tkH 1 ⟨some 37, _, _, _, _, _⟩ ?_ rfl ?_ (by assumption) ?_
        rotate_left
        · (intro w hSw; (try dsimp only at hSw); go_simp; all_goals with_reducible rfl)
        try simp only [Act.put, sA, sB, sC]
        refine tkH 2 ⟨some 38, _, _, _, _, _⟩ ?_ rfl ?_ (by assumption) ?_
        rotate_left
        · (intro w hSw; (try dsimp only at hSw); go_simp; all_goals with_reducible rfl)
        try simp only [Act.put, sA, sB, sC]
        refine tkH 3 ⟨some 39, _, _, _, _, _⟩ ?_ rfl ?_ (by assumption) ?_
        rotate_left
        · (intro w hSw; (try dsimp only at hSw); go_simp; all_goals with_reducible rfl)
        try simp only [Act.put, sA, sB, sC]
        refine tkH 4 ⟨some 40, _, _, _, _, _⟩ ?_ rfl ?_ (by assumption) ?_
        rotate_left
        · (intro w hSw; (try dsimp only at hSw); go_simp; all_goals with_reducible rfl)
        try simp only [Act.put, sA, sB, sC]
        refine tkH 5 ⟨some 41, _, _, _, _, _⟩ ?_ rfl ?_ (by assumption) ?_
        rotate_left
        · (intro w hSw; (try dsimp only at hSw); go_simp; all_goals with_reducible rfl)
        try simp only [Act.put, sA, sB, sC]
        refine tkH 6 ⟨some 42, _, _, _, _, _⟩ ?_ rfl ?_ (by assumption) ?_
        rotate_left
        · (intro w hSw; (try dsimp only at hSw); go_simp; all_goals with_reducible rfl)
        try simp only [Act.put, sA, sB, sC]
        refine tkH 7 ⟨some 43, _, _, _, _, _⟩ ?_ rfl ?_ (by assumption) ?_
        rotate_left
        · (intro w hSw; (try dsimp only at hSw); go_simp; all_goals with_reducible rfl)
        try simp only [Act.put, sA, sB, sC]
        refine tkH 8 ⟨some 44, _, _, _, _, _⟩ ?_ rfl ?_ (by assumption) ?_
        rotate_left
        · (intro w hSw; (try dsimp only at hSw); go_simp; all_goals with_reducible rfl)
        try simp only [Act.put, sA, sB, sC]
        refine tkH 9 ⟨some 45, _, _, _, _, _⟩ ?_ rfl ?_ (by assumption) ?_
        rotate_left
        · (intro w hSw; (try dsimp only at hSw); go_simp; all_goals with_reducible rfl)
        try simp only [Act.put, sA, sB, sC]
        refine tkH 10 ⟨some 46, _, _, _, _, _⟩ ?_ rfl ?_ (by assumption) ?_
        rotate_left
        · (intro w hSw; (try dsimp only at hSw); go_simp; all_goals with_reducible rfl)
        try simp only [Act.put, sA, sB, sC]
        refine tkH 11 ⟨some 47, _, _, _, _, _⟩ ?_ rfl ?_ (by assumption) ?_
        rotate_left
        · (intro w hSw; (try dsimp only at hSw); go_simp; all_goals with_reducible rfl)
        try simp only [Act.put, sA, sB, sC]
        refine tkH 12 ⟨some 48, _, _, _, _, _⟩ ?_ rfl ?_ (by assumption) ?_
        rotate_left
        · (intro w hSw; (try dsimp only at hSw); go_simp; all_goals with_reducible rfl)
        try simp only [Act.put, sA, sB, sC]
        refine tkH 13 ⟨some 49, _, _, _, _, _⟩ ?_ rfl ?_ (by assumption) ?_
        rotate_left
        · (intro w hSw; (try dsimp only at hSw); go_simp; all_goals with_reducible rfl)
        try simp only [Act.put, sA, sB, sC]
        refine tkH 14 ⟨some 50, _, _, _, _, _⟩ ?_ rfl ?_ (by assumption) ?_
        rotate_left
        · (intro w hSw; (try dsimp only at hSw); go_simp; all_goals with_reducible rfl)
        try simp only [Act.put, sA, sB, sC]
        refine tkH 15 ⟨some 7, _, _, _, _, _⟩ ?_ rfl ?_ (by assumption) ?_
        rotate_left
        · (intro w hSw; (try dsimp only at hSw); go_simp; all_goals with_reducible rfl)
        try simp only [Act.put, sA, sB, sC]
        refine wpAnyH_done (by kernel_rfl) ?_ _
        have HBd := Lib.hid (hB.drew.drew)
        have hmn : ¬ mm < 0 := by omega
        have w3 : IntKind.i64.wrap (S + mm) = S + mm := IntWalk.i64_in _ (by omega)
        go_wp2
        go_roundw
        case rel => exact ⟨q + 1 + 1, S + mm, by omega, by go_num, rfl, Lib.hid (by rw [T1.out, hS.out]), by omega, by omega, HBd.out⟩
        case measure => simp [intOf]; omega
    · have kn : ¬ (k : Int) < (ll : Int) := by omega
      have hr : Hid (S = E) := Lib.hid (by rw [hS.out, List.take_of_length_le (by have := hll.out; omega)]; exact hE.out)
      go_wp2
      go_ret
      exact ⟨ret_int hr.out, hBe⟩
end Go.Proofs.YtojaompfffpofaaGreat
