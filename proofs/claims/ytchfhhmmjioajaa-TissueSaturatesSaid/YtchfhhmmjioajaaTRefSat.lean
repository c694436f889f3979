/- Loads that hold just what is breathed: the specification's Saturated and Same. -/
import Derived.Test.YtchfhhmmjioajaaTSat
import Derived.Test.YtchfhhmmjioajaaMRefRoots
import Derived.Outline
namespace Go.Proofs.Ytchfhhmmjioajaa
open Go.ChangeShapes Go.WideShapes Go.ChangeAt Go.RowKit
set_option linter.unusedVariables false
set_option linter.unusedSimpArgs false
attribute [local go_sem ↓] Go.wp_at_zero Go.wp_at_succ
theorem lcs_rep (k : Nat) (a : Ld) : lcs (List.replicate (k + 1) a) = lcs (List.replicate k a) ++ [.int .i64 a.a, .int .i64 a.b, .int .i64 a.c, .int .i64 a.d] := by
  rw [List.replicate_succ']
  unfold lcs
  rw [List.flatMap_append]
  rfl
theorem refNitro_is (o h n : Int) (w : World) (o0 : 0 ≤ o) (o1 : o ≤ 1000) (h0 : 0 ≤ h) (h1 : h ≤ 1000) (hn : Hid (1000 - o - h = n)) :
    Calls Try.prog 87 #[.agg #[.int .i64 o, .int .i64 h]] w fun e w' => e = .returned (.int .i64 n) ∧ Below w.heap.size w w' := by
  have hv : Hid (n = 1000 - o - h) := hn.out.symm
  clear hn
  go_enter Try.func87, Try.ntmps87
  go_wp2
  go_ret
  exact ⟨ret_int hv.out.symm, (by (repeat (first | (with_reducible refine Below.drew ?_) | (with_reducible refine below_drewN ?_ _) | (with_reducible refine Below.alloc ?_ (by first | omega | (simp; done) | (simp; omega) | (simp at *; omega)) _) | (with_reducible refine Below.setCell ?_ (by first | omega | (simp; done) | (simp; omega) | (simp at *; omega)) _) | (with_reducible exact Below.refl _ _) | (with_reducible assumption) | (with_reducible refine Below.trans ?_ (Below.mono (by assumption) (by first | omega | (simp; done) | (simp; omega) | (simp at *; omega)))))))⟩
theorem refBreathed_is (n p x : Int) (w : World) (n0 : 0 ≤ n) (n1 : n ≤ 1000) (p0 : 400 ≤ p) (p1 : p ≤ 31100) (hx : Hid (n * (p - 63) = x)) :
    Calls Try.prog 86 #[.int .i64 n, .int .i64 p] w fun e w' => e = .returned (.int .i64 x) ∧ w = w' := by
  have e1 : n * (p - 63) = x := hx.out
  have hb : 0 ≤ x ∧ x ≤ 31037000 := by rw [← e1]; exact ⟨Int.mul_nonneg n0 (by omega), Int.le_trans (Int.mul_le_mul n1 (show p - 63 ≤ 31037 by omega) (by omega) (by omega)) (by omega)⟩
  have e2 : IntKind.i64.wrap (n * (p - 63)) = x := by rw [e1]; exact IntWalk.i64_in _ (by omega)
  have e3 : IntKind.i64.wrap x = x := IntWalk.i64_in _ (by omega)
  clear hx
  go_enter Try.func86, Try.ntmps86
  go_wp2
  go_ret
  exact ⟨ret_int rfl, rfl⟩
/-- The specification made a list of n loads that hold x of nitrogen and y of helium. -/
def RSatL (n : Nat) (x y : Int) (w : World) (e : Ending) (w' : World) : Prop := ∃ A cap, e = .returned (.slice A n cap) ∧ SlLd w' A (List.replicate n ⟨x, x, y, y⟩) ∧ Below w.heap.size w w'
set_option maxRecDepth 100000 in
set_option maxHeartbeats 2000000 in
theorem refSaturated_is (T : List Cm) (A : Option Addr) (cap : Nat) (o h p x y : Int) (w : World) (hl16 : T.length ≤ 16) (o0 : 0 ≤ o) (o1 : o ≤ 1000) (h0 : 0 ≤ h) (h1 : h ≤ 1000) (oh : o + h ≤ 1000) (p0 : 400 ≤ p) (p1 : p ≤ 31100) (hx : Hid ((1000 - o - h) * (p - 63) = x)) (hy : Hid (h * (p - 63) = y)) :
    Calls Try.prog 31 #[.slice A T.length cap, .agg #[.int .i64 o, .int .i64 h], .int .i64 p] w (RSatL T.length x y w) := by
  obtain ⟨i0, hi, hz0, hz1, hz2⟩ := info_parts infoLd
  have HI := Lib.hid hi
  have HZ0 := Lib.hid hz0
  have HZ1 := Lib.hid hz1
  have HZ2 := Lib.hid hz2
  clear hi hz0 hz1 hz2
  obtain ⟨n, hn⟩ : ∃ z, Hid (1000 - o - h = z) := ⟨_, rfl⟩
  have HNi := Lib.hid (fun w => refNitro_is o h n w o0 o1 h0 h1 hn)
  have hnb : 0 ≤ n ∧ n ≤ 1000 := by rw [← hn.out]; omega
  have HB1 := Lib.hid (fun w => refBreathed_is n p x w hnb.1 hnb.2 p0 p1 (by show _ = _; rw [← hn.out]; exact hx.out))
  have HB2 := Lib.hid (fun w => refBreathed_is h p y w h0 h1 p0 p1 hy)
  clear hn hx hy hnb
  go_enter Try.func31, Try.ntmps31
  go_upto_region 1 with (fail)
  refine wp_region_held_drew (S := (fun w' => w'.cell? ⟨w.heap.size, 0, none⟩ = some (.int .i64 o) ∧ w'.cell? ⟨w.heap.size, 1, none⟩ = some (.int .i64 h))) (by kernel_rfl) (by simp [go_sem, World.cell?_alloc_past, *]) (fun hHeld => ?_)
  refine wpAnyH_take (i := 0) (oi := ⟨some 11, _, _, _, _, _⟩) (v := ?_) rfl (by kernel_rfl) (by kernel_rfl) (by kernel_rfl) (fun _ _ _ h => h) (Or.inl ⟨by kernel_rfl, ?_⟩) (by assumption) ?_
  rotate_left
  · (intro w hSw; (try dsimp only at hSw); go_simp; all_goals with_reducible rfl)
  try simp only [Act.put, List.setIfInBounds_toArray, List.set_cons_zero, List.set_cons_succ]
  refine wpAnyH_take (i := 2) (oi := ⟨some 13, _, _, _, _, _⟩) (v := ?_) rfl (by kernel_rfl) (by kernel_rfl) (by kernel_rfl) (fun _ _ _ h => h) (Or.inl ⟨by kernel_rfl, ?_⟩) (by assumption) ?_
  rotate_left
  · (intro w hSw; (try dsimp only at hSw); go_simp; all_goals with_reducible rfl)
  try simp only [Act.put, List.setIfInBounds_toArray, List.set_cons_zero, List.set_cons_succ]
  refine wpAnyH_take (i := 4) (oi := ⟨some 15, _, _, _, _, _⟩) (v := ?_) rfl (by kernel_rfl) (by kernel_rfl) (by kernel_rfl) (fun _ _ _ h => h) (Or.inl ⟨by kernel_rfl, ?_⟩) (by assumption) ?_
  rotate_left
  · (intro w hSw; (try dsimp only at hSw); go_simp; all_goals with_reducible rfl)
  try simp only [Act.put, List.setIfInBounds_toArray, List.set_cons_zero, List.set_cons_succ]
  refine wpAnyH_take (i := 5) (oi := ⟨some 16, _, _, _, _, _⟩) (v := ?_) rfl (by kernel_rfl) (by kernel_rfl) (by kernel_rfl) (fun _ _ _ h => h) (Or.inl ⟨by kernel_rfl, ?_⟩) (by assumption) ?_
  rotate_left
  · (intro w hSw; (try dsimp only at hSw); go_simp; all_goals with_reducible rfl)
  try simp only [Act.put, List.setIfInBounds_toArray, List.set_cons_zero, List.set_cons_succ]
  refine wpAnyH_take (i := 6) (oi := ⟨some 17, _, _, _, _, _⟩) (v := ?_) rfl (by kernel_rfl) (by kernel_rfl) (by kernel_rfl) (fun _ _ _ h => h) (Or.inl ⟨by kernel_rfl, ?_⟩) (by assumption) ?_
  rotate_left
  · (intro w hSw; (try dsimp only at hSw); go_simp; all_goals with_reducible rfl)
  try simp only [Act.put, List.setIfInBounds_toArray, List.set_cons_zero, List.set_cons_succ]
  refine wpAnyH_ready (rs := [1]) (by kernel_rfl) (by simp) ?_
  refine AllReadyH.cons rfl (fun K hK => ?_) AllReadyH.nil
  go_simp
  refine (HNi.out _).mono ?_
  rintro e w1 ⟨rfl, hb1⟩
  have hs1 := hb1.size
  try simp at hs1
  have c0 : w1.cell? ⟨w.heap.size, 0, none⟩ = some (.int .i64 o) := by rw [(bcell hb1).1 _ _ (by first | (simp; done) | (simp; omega) | omega)]; simp [go_sem, World.cell?_alloc_past]
  have c1 : w1.cell? ⟨w.heap.size, 1, none⟩ = some (.int .i64 h) := by rw [(bcell hb1).1 _ _ (by first | (simp; done) | (simp; omega) | omega)]; simp [go_sem, World.cell?_alloc_past]
  have hB1 : Below w.heap.size w w1 := (by (repeat (first | (with_reducible refine Below.drew ?_) | (with_reducible refine below_drewN ?_ _) | (with_reducible refine Below.alloc ?_ (by first | omega | (simp; done) | (simp; omega) | (simp at *; omega)) _) | (with_reducible refine Below.setCell ?_ (by first | omega | (simp; done) | (simp; omega) | (simp at *; omega)) _) | (with_reducible exact Below.refl _ _) | (with_reducible assumption) | (with_reducible refine Below.trans ?_ (Below.mono (by assumption) (by first | omega | (simp; done) | (simp; omega) | (simp at *; omega)))))))
  clear hb1
  go_wp2_with fail
  refine hK.out _ _ (by simp [go_sem, World.cell?_alloc_past, *]) (fun hHeld => ?_)
  clear hK K
  try simp only [Act.put, List.setIfInBounds_toArray, List.set_cons_zero, List.set_cons_succ]
  refine wpAnyH_ready (rs := [3]) (by kernel_rfl) (by simp) ?_
  refine AllReadyH.cons rfl (fun K hK => ?_) AllReadyH.nil
  go_simp
  refine (HB1.out _).mono ?_
  rintro e w2 ⟨rfl, rfl⟩
  go_wp2_with fail
  refine hK.out _ _ (by simp [go_sem, World.cell?_alloc_past, *]) (fun hHeld => ?_)
  clear hK K
  try simp only [Act.put, List.setIfInBounds_toArray, List.set_cons_zero, List.set_cons_succ]
  refine wpAnyH_ready (rs := [7]) (by kernel_rfl) (by simp) ?_
  refine AllReadyH.cons rfl (fun K hK => ?_) AllReadyH.nil
  go_simp
  refine (HB2.out _).mono ?_
  rintro e w2 ⟨rfl, rfl⟩
  go_wp2_with fail
  refine hK.out _ _ (by simp [go_sem, World.cell?_alloc_past, *]) (fun hHeld => ?_)
  clear hK K
  try simp only [Act.put, List.setIfInBounds_toArray, List.set_cons_zero, List.set_cons_succ]
  refine wpAnyH_take (i := 8) (oi := ⟨some 7, _, _, _, _, _⟩) (v := ?_) rfl (by kernel_rfl) (by kernel_rfl) (by kernel_rfl) (fun _ _ _ h => h) (Or.inl ⟨by kernel_rfl, ?_⟩) (by assumption) ?_
  rotate_left
  · (intro w hSw; (try dsimp only at hSw); go_simp; all_goals with_reducible rfl)
  try simp only [Act.put, List.setIfInBounds_toArray, List.set_cons_zero, List.set_cons_succ]
  refine wpAnyH_take (i := 9) (oi := ⟨some 8, _, _, _, _, _⟩) (v := ?_) rfl (by kernel_rfl) (by kernel_rfl) (by kernel_rfl) (fun _ _ _ h => h) (Or.inl ⟨by kernel_rfl, ?_⟩) (by assumption) ?_
  rotate_left
  · (intro w hSw; (try dsimp only at hSw); go_simp; all_goals with_reducible rfl)
  try simp only [Act.put, List.setIfInBounds_toArray, List.set_cons_zero, List.set_cons_succ]
  refine wpAnyH_done (by kernel_rfl) ?_ _
  go_wp2
  clear c0 c1
  go_loopw [9, 10] (fun v i wr => ∃ k : Nat, k ≤ T.length ∧ i = .int .i64 k ∧ Hid (wr.ownsRow w.heap.size 45 4 v k (lcs (List.replicate k ⟨x, x, y, y⟩))) ∧ Below w.heap.size w wr) (fun _ i _ => T.length - (intOf i).toNat)
  case atStart => exact ⟨0, by omega, rfl, World.ownsRow_nil _ _ _ _, by first | assumption | (repeat (first | (with_reducible refine Below.drew ?_) | (with_reducible refine below_drewN ?_ _) | (with_reducible refine Below.alloc ?_ (by first | omega | (simp; done) | (simp; omega) | (simp at *; omega)) _) | (with_reducible refine Below.setCell ?_ (by first | omega | (simp; done) | (simp; omega) | (simp at *; omega)) _) | (with_reducible exact Below.refl _ _) | (with_reducible assumption) | (with_reducible refine Below.trans ?_ (Below.mono (by assumption) (by first | omega | (simp; done) | (simp; omega) | (simp at *; omega))))))⟩
  case round =>
    obtain ⟨k, hk, rfl, HO, hB⟩ := hrel
    have sz := hB.size
    by_cases hkl : k < T.length
    · have hkl2 : (k : Int) < T.length := by omega
      have HN : Hid (lcs (List.replicate (k + 1) ⟨x, x, y, y⟩) = lcs (List.replicate k ⟨x, x, y, y⟩) ++ [.int .i64 x, .int .i64 x, .int .i64 y, .int .i64 y]) := lcs_rep k ⟨x, x, y, y⟩
      go_wp2_with (at_builtin; refine wpList_append_own_at _ rfl _ _ 36 rfl w.heap.size 45 i0 (.agg #[.int .i64 0, .int .i64 0, .int .i64 0, .int .i64 0]) 4 32 Try.underlying36 HI.out HZ0.out HZ1.out HZ2.out rfl (by decide) _ _ _ rfl (HO.out.alloc _) ⟨wr.heap.size, 0, none⟩ 1 1 [.int .i64 x, .int .i64 x, .int .i64 y, .int .i64 y] rfl rfl ?c0 ?c1 ?c2 ?c3 ?c4 ?_)
      case c0 =>
        intro j u hj
        match j, hj with
        | 0, hj => simp at hj; subst hj; simp [Addr.add, go_sem]
        | 1, hj => simp at hj; subst hj; simp [Addr.add, go_sem]
        | 2, hj => simp at hj; subst hj; simp [Addr.add, go_sem]
        | 3, hj => simp at hj; subst hj; simp [Addr.add, go_sem]
      case c1 => intro u hu; simp at hu; rcases hu with rfl | rfl | rfl | rfl <;> rfl
      case c2 => unfold maxLen; omega
      case c3 => omega
      case c4 => simp; omega
      intro v' w5 hown hgrow hnn hblk
      have hB5 : Below w.heap.size w w5 := hB.trans (((Below.refl w.heap.size wr).alloc (by omega) _).grown hgrow (by simp; omega) (own_block1 HO.out))
      have HOW : Hid (w5.ownsRow w.heap.size 45 4 v' (k + 1) (lcs (List.replicate (k + 1) ⟨x, x, y, y⟩))) := by
        show World.ownsRow _ _ _ _ _ _ _
        rw [HN.out]
        exact hown
      clear hown hgrow hnn hblk HO
      go_wp2
      go_roundw
      case rel => exact ⟨k + 1, by omega, by go_num, HOW, hB5⟩
      case measure => (simp [intOf]) <;> omega
    · have hkl2 : ¬ (k : Int) < T.length := by omega
      have hkk : k = T.length := by omega
      have HO2 := HO.out
      have hre : (List.replicate k (⟨x, x, y, y⟩ : Ld)).length = k := by simp
      have HS := SlLd_own (P := List.replicate k ⟨x, x, y, y⟩) (by rw [hre]; exact HO2)
      obtain ⟨A', cap2, rfl, hS, _⟩ := HS
      rw [hre]
      have HSS := Lib.hid hS
      rw [hkk] at HSS ⊢
      clear HO HO2 hS hkk
      go_wp2
      go_ret
      exact ⟨A', cap2, rfl, HSS.out, hB⟩
set_option maxRecDepth 100000 in
set_option maxHeartbeats 1000000 in
theorem refSame_t (P : List Ld) (A B : Option Addr) (cap cap' : Nat) (w : World) (hl : P.length ≤ 1000) (hP : SlLd w A P) (hR : SlLd w B P) :
    Calls Try.prog 30 #[.slice A P.length cap, .slice B P.length cap'] w fun e w' => e = .returned (.bool true) ∧ Below w.heap.size w w' := by
  have HP := Lib.hid hP
  have HR := Lib.hid hR
  clear hP hR
  go_enter Try.func30, Try.ntmps30
  go_wp2
  go_loopw [5] (fun i wr => ∃ k : Nat, k ≤ P.length ∧ i = .int .i64 k ∧ Below w.heap.size w wr) (fun i _ => P.length - (intOf i).toNat)
  case atStart => exact ⟨0, by omega, rfl, (by (repeat (first | (with_reducible refine Below.drew ?_) | (with_reducible refine below_drewN ?_ _) | (with_reducible refine Below.alloc ?_ (by first | omega | (simp; done) | (simp; omega) | (simp at *; omega)) _) | (with_reducible refine Below.setCell ?_ (by first | omega | (simp; done) | (simp; omega) | (simp at *; omega)) _) | (with_reducible exact Below.refl _ _) | (with_reducible assumption) | (with_reducible refine Below.trans ?_ (Below.mono (by assumption) (by first | omega | (simp; done) | (simp; omega) | (simp at *; omega)))))))⟩
  case round =>
    obtain ⟨k, hk, rfl, hB⟩ := hrel
    by_cases hkl : k < P.length
    · have hkl2 : (k : Int) < P.length := by omega
      rcases (HP.out.below hB : SlLd wr A P) with hnil | ⟨pb, po, hAA, plt, PL⟩
      · rw [hnil] at hkl; simp at hkl
      rcases (HR.out.below hB : SlLd wr B P) with hnil | ⟨rb, ro, hBB, rlt, RL⟩
      · rw [hnil] at hkl; simp at hkl
      subst hAA hBB
      obtain ⟨c0, c1, c2, c3⟩ := PL k hkl
      obtain ⟨d0, d1, d2, d3⟩ := RL k hkl
      obtain ⟨p0, hp0⟩ : ∃ x, Hid (P[k].a = x) := ⟨P[k].a, Lib.hid rfl⟩
      obtain ⟨p1, hp1⟩ : ∃ x, Hid (P[k].b = x) := ⟨P[k].b, Lib.hid rfl⟩
      obtain ⟨p2, hp2⟩ : ∃ x, Hid (P[k].c = x) := ⟨P[k].c, Lib.hid rfl⟩
      obtain ⟨p3, hp3⟩ : ∃ x, Hid (P[k].d = x) := ⟨P[k].d, Lib.hid rfl⟩
      rw [hp0.out] at c0 d0
      rw [hp1.out] at c1 d1
      rw [hp2.out] at c2 d2
      rw [hp3.out] at c3 d3
      clear PL RL hp0 hp1 hp2 hp3
      go_upto_region 6 with (fail)
      go_region_held3 (fun w' => w'.cell? ⟨pb, po + k * 4, none⟩ = some (.int .i64 p0) ∧ w'.cell? ⟨pb, po + k * 4 + 1, none⟩ = some (.int .i64 p1) ∧ w'.cell? ⟨pb, po + k * 4 + 2, none⟩ = some (.int .i64 p2) ∧ w'.cell? ⟨pb, po + k * 4 + 3, none⟩ = some (.int .i64 p3) ∧ w'.cell? ⟨rb, ro + k * 4, none⟩ = some (.int .i64 p0) ∧ w'.cell? ⟨rb, ro + k * 4 + 1, none⟩ = some (.int .i64 p1) ∧ w'.cell? ⟨rb, ro + k * 4 + 2, none⟩ = some (.int .i64 p2) ∧ w'.cell? ⟨rb, ro + k * 4 + 3, none⟩ = some (.int .i64 p3)) (simp [go_sem, *]) (fail)
      go_wp2
      go_roundw
      case rel => exact ⟨k + 1, by omega, by go_num, (by (repeat (first | (with_reducible refine Below.drew ?_) | (with_reducible refine below_drewN ?_ _) | (with_reducible refine Below.alloc ?_ (by first | omega | (simp; done) | (simp; omega) | (simp at *; omega)) _) | (with_reducible refine Below.setCell ?_ (by first | omega | (simp; done) | (simp; omega) | (simp at *; omega)) _) | (with_reducible exact Below.refl _ _) | (with_reducible assumption) | (with_reducible refine Below.trans ?_ (Below.mono (by assumption) (by first | omega | (simp; done) | (simp; omega) | (simp at *; omega)))))))⟩
      case measure => (simp [intOf]) <;> omega
    · have hkl2 : ¬ (k : Int) < P.length := by omega
      go_wp2
      go_ret
      exact ⟨rfl, hB⟩
end Go.Proofs.Ytchfhhmmjioajaa
