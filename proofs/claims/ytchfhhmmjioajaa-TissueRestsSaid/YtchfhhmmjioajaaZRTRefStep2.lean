import Derived.Test.YtchfhhmmjioajaaZRTRefStep
import Derived.Test.YtchfhhmmjioajaaZRMPlans
import Derived.Test.YtchfhhmmjioajaaZRTLdR
import Derived.Outline
namespace Go.Proofs.Ytchfhhmmjioajaa
open Go.ChangeShapes Go.WideShapes Go.ChangeAt Go.RowKit
set_option linter.unusedVariables false
set_option linter.unusedSimpArgs false
attribute [local go_sem ↓] Go.wp_at_zero Go.wp_at_succ
theorem lcs_map (f : Nat → Ld) (k : Nat) : lcs ((List.range (k + 1)).map f) = lcs ((List.range k).map f) ++ [.int .i64 (f k).a, .int .i64 (f k).b, .int .i64 (f k).c, .int .i64 (f k).d] := by
  rw [List.range_succ, List.map_append]
  unfold lcs
  rw [List.flatMap_append]
  rfl
def RowsL (n : Nat) (f : Nat → Ld) (w : World) (e : Ending) (w' : World) : Prop := ∃ A cap, e = .returned (.slice A n cap) ∧ SlLd w' A ((List.range n).map f) ∧ Below w.heap.size w w'
set_option maxRecDepth 100000 in
set_option maxHeartbeats 4000000 in
theorem refStep_any (T : List Cm) (P : List Ld) (A B : Option Addr) (cap cap' : Nat) (s a b o h p0 p1 p2 p3 : Int) (L rb rcap : Nat) (w : World) (hl16 : T.length ≤ 16) (hPl : P.length = T.length)
    (hc : ∀ k, (hk : k < T.length) → (1 ≤ T[k].n ∧ T[k].n ≤ 100000) ∧ 1 ≤ T[k].h ∧ T[k].h ≤ 100000)
    (hP : ∀ k, (hk : k < P.length) → (0 ≤ P[k].a ∧ P[k].a ≤ 100000000) ∧ (0 ≤ P[k].b ∧ P[k].b ≤ 100000000) ∧ (0 ≤ P[k].c ∧ P[k].c ≤ 100000000) ∧ 0 ≤ P[k].d ∧ P[k].d ≤ 100000000)
    (s0 : 0 ≤ s) (s1 : s ≤ 1000000) (a0 : 400 ≤ a) (a1 : a ≤ 31100) (b0 : 400 ≤ b) (b1 : b ≤ 31100) (o0 : 0 ≤ o) (o1 : o ≤ 1000) (h0 : 0 ≤ h) (h1 : h ≤ 1000) (oh : o + h ≤ 1000)
    (e0 : Hid ((1000 - o - h) * (a - 63) = p0)) (e1 : Hid ((1000 - o - h) * (b - 63) = p1)) (e2 : Hid (h * (a - 63) = p2)) (e3 : Hid (h * (b - 63) = p3))
    (hL : L ≤ 40) (hlt : rb < w.heap.size) (hcap : L + 1 ≤ rcap) (hcap2 : rcap ≤ maxLen) (hR : RtAt w rb L) (hTS : SlCm w A T) (hPS : SlLd w B P) :
    Calls Try.prog 91 #[.slice A T.length cap, .slice B T.length cap', .int .i64 s, .agg #[.int .i64 a, .int .i64 b], .agg #[.int .i64 o, .int .i64 h], .slice (some ⟨rb, 0, none⟩) (L + 1) rcap] w (RowsL T.length (stepR s L T P p0 p1 p2 p3) w) := by
  have HR := Lib.hid hR
  have HT := Lib.hid hTS
  have HP := Lib.hid hPS
  have HC := Lib.hid hc
  have HPB := Lib.hid hP
  obtain ⟨i0, hi, hz0, hz1, hz2⟩ := info_parts infoLd
  have HI := Lib.hid hi
  have HZ0 := Lib.hid hz0
  have HZ1 := Lib.hid hz1
  have HZ2 := Lib.hid hz2
  obtain ⟨N, hN⟩ : ∃ z, Hid (1000 - o - h = z) := ⟨_, rfl⟩
  have HNi := Lib.hid (fun w => refNitro_is o h N w o0 o1 h0 h1 hN)
  have bN : 0 ≤ N ∧ N ≤ 1000 := by rw [← hN.out]; omega
  rw [hN.out] at e0 e1
  clear hR hTS hPS hc hP hi hz0 hz1 hz2 hN
  go_enter Try.func91, Try.ntmps91
  go_upto_region 1 with (fail)
  have ca : ((w.alloc (.cells #[.int .i64 a, .int .i64 b] 24)).alloc (.cells #[.int .i64 o, .int .i64 h] 38)).cell? ⟨w.heap.size, 0, none⟩ = some (.int .i64 a) := by simp [go_sem, World.cell?_alloc_past]
  have cb : ((w.alloc (.cells #[.int .i64 a, .int .i64 b] 24)).alloc (.cells #[.int .i64 o, .int .i64 h] 38)).cell? ⟨w.heap.size, 1, none⟩ = some (.int .i64 b) := by simp [go_sem, World.cell?_alloc_past]
  have co : ((w.alloc (.cells #[.int .i64 a, .int .i64 b] 24)).alloc (.cells #[.int .i64 o, .int .i64 h] 38)).cell? ⟨w.heap.size + 1, 0, none⟩ = some (.int .i64 o) := by simp [go_sem, World.cell?_alloc_past]
  have ch : ((w.alloc (.cells #[.int .i64 a, .int .i64 b] 24)).alloc (.cells #[.int .i64 o, .int .i64 h] 38)).cell? ⟨w.heap.size + 1, 1, none⟩ = some (.int .i64 h) := by simp [go_sem, World.cell?_alloc_past]
  have lg : w.heap.size + 1 < ((w.alloc (.cells #[.int .i64 a, .int .i64 b] 24)).alloc (.cells #[.int .i64 o, .int .i64 h] 38)).heap.size := by simp
  have hb1 : Below w.heap.size w ((w.alloc (.cells #[.int .i64 a, .int .i64 b] 24)).alloc (.cells #[.int .i64 o, .int .i64 h] 38)) := (by (repeat (first | (with_reducible refine Below.drew ?_) | (with_reducible refine below_drewN ?_ _) | (with_reducible refine Below.alloc ?_ (by first | omega | (simp; done) | (simp; omega) | (simp at *; omega)) _) | (with_reducible refine Below.setCell ?_ (by first | omega | (simp; done) | (simp; omega) | (simp at *; omega)) _) | (with_reducible exact Below.refl _ _) | (with_reducible assumption) | (with_reducible refine Below.trans ?_ (Below.mono (by assumption) (by first | omega | (simp; done) | (simp; omega) | (simp at *; omega)))))))
  have lw : w.heap.size < w.heap.size + 1 := Nat.lt_succ_self _
  generalize hm : ((w.alloc (.cells #[.int .i64 a, .int .i64 b] 24)).alloc (.cells #[.int .i64 o, .int .i64 h] 38)) = w1 at *
  generalize hg1 : w.heap.size + 1 = g1 at *
  clear hm hg1
  have lw1 : w.heap.size < w1.heap.size := by omega
  have HT1 := Lib.hid (HT.out.below hb1)
  have HP1 := Lib.hid (HP.out.below hb1)
  have HR1 := Lib.hid (HR.out.below hb1 hlt)
  have hlt1 : rb < w1.heap.size := by omega
  clear HT HP HR
  go_wp2
  go_loopw [13, 14] (fun v i wr => ∃ k : Nat, k ≤ T.length ∧ i = .int .i64 k ∧ Hid (wr.ownsRow w1.heap.size 45 4 v k (lcs ((List.range k).map (stepR s L T P p0 p1 p2 p3)))) ∧ Below w1.heap.size w1 wr) (fun _ i _ => T.length - (intOf i).toNat)
  case atStart => exact ⟨0, by omega, rfl, World.ownsRow_nil _ _ _ _, Below.refl _ _⟩
  case round =>
    obtain ⟨k, hk, rfl, HO, hB⟩ := hrel
    have sz := hB.size
    have hBw : Below w.heap.size w wr := hb1.trans (hB.mono hb1.size)
    by_cases hkl : k < T.length
    · have hkl2 : (k : Int) < T.length := by omega
      have hkp : k < P.length := by omega
      rcases HT1.out with hnil | ⟨tb, to', hAA, tlt, TL⟩
      · rw [hnil] at hkl; simp at hkl
      rcases HP1.out with hnil | ⟨pb, po, hBB, plt, PL⟩
      · rw [hnil] at hkp; simp at hkp
      subst hAA hBB
      obtain ⟨c0, c1, c2, c3⟩ := TL k hkl
      obtain ⟨d0, d1, d2, d3⟩ := PL k hkp
      obtain ⟨⟨n0, n1⟩, n2, n3⟩ := HC.out k hkl
      obtain ⟨pa, pbb, pc, pd⟩ := HPB.out k hkp
      have hda : stepR s L T P p0 p1 p2 p3 k = ⟨apL P[k].a p0 (decL s T[k].n L) (decH s T[k].n L), apH P[k].b p1 (decL s T[k].n L) (decH s T[k].n L), apL P[k].c p2 (decL s T[k].h L) (decH s T[k].h L), apH P[k].d p3 (decL s T[k].h L) (decH s T[k].h L)⟩ := by unfold stepR decAt; rw [getD_of hkl, getD_of hkp]
      obtain ⟨t0, ht0⟩ : ∃ z, Hid (P[k].a = z) := ⟨P[k].a, Lib.hid rfl⟩
      obtain ⟨t1, ht1⟩ : ∃ z, Hid (P[k].b = z) := ⟨P[k].b, Lib.hid rfl⟩
      obtain ⟨t2, ht2⟩ : ∃ z, Hid (P[k].c = z) := ⟨P[k].c, Lib.hid rfl⟩
      obtain ⟨t3, ht3⟩ : ∃ z, Hid (P[k].d = z) := ⟨P[k].d, Lib.hid rfl⟩
      obtain ⟨cn, hcn⟩ : ∃ z, Hid (T[k].n = z) := ⟨T[k].n, Lib.hid rfl⟩
      obtain ⟨ch2, hch2⟩ : ∃ z, Hid (T[k].h = z) := ⟨T[k].h, Lib.hid rfl⟩
      rw [ht0.out] at d0 pa hda
      rw [ht1.out] at d1 pbb hda
      rw [ht2.out] at d2 pc hda
      rw [ht3.out] at d3 pd hda
      rw [hcn.out] at c0 n0 n1 hda
      rw [hch2.out] at c1 n2 n3 hda
      have bd1 := dec_bd (s := s) (h := cn) (by omega) L
      have bd2 := dec_bd (s := s) (h := ch2) (by omega) L
      obtain ⟨m0, hm0⟩ : ∃ z, Hid (decL s cn L = z) := ⟨_, rfl⟩
      obtain ⟨m1, hm1⟩ : ∃ z, Hid (decH s cn L = z) := ⟨_, rfl⟩
      obtain ⟨m2, hm2⟩ : ∃ z, Hid (decL s ch2 L = z) := ⟨_, rfl⟩
      obtain ⟨m3, hm3⟩ : ∃ z, Hid (decH s ch2 L = z) := ⟨_, rfl⟩
      have HD1 : Hid (∀ w', Below w1.heap.size w1 w' → Calls Try.prog 77 #[.int .i64 s, .int .i64 cn, .slice (some ⟨rb, 0, none⟩) (L + 1) rcap] w' fun e w'' => e = .returned (.agg #[.int .i64 m0, .int .i64 m1]) ∧ Below w'.heap.size w' w'') := fun w' hb => by
        rw [← hm0.out, ← hm1.out]; exact refDecay_any s cn L rb rcap w' s0 s1 n0 n1 hL (Nat.lt_of_lt_of_le hlt1 hb.size) hcap hcap2 (HR1.out.below hb hlt1)
      have HD2 : Hid (∀ w', Below w1.heap.size w1 w' → Calls Try.prog 77 #[.int .i64 s, .int .i64 ch2, .slice (some ⟨rb, 0, none⟩) (L + 1) rcap] w' fun e w'' => e = .returned (.agg #[.int .i64 m2, .int .i64 m3]) ∧ Below w'.heap.size w' w'') := fun w' hb => by
        rw [← hm2.out, ← hm3.out]; exact refDecay_any s ch2 L rb rcap w' s0 s1 n2 n3 hL (Nat.lt_of_lt_of_le hlt1 hb.size) hcap hcap2 (HR1.out.below hb hlt1)
      rw [hm0.out, hm1.out] at bd1 hda
      rw [hm2.out, hm3.out] at bd2 hda
      obtain ⟨x0, hx0⟩ : ∃ z, Hid (apL t0 p0 m0 m1 = z) := ⟨_, rfl⟩
      obtain ⟨x1, hx1⟩ : ∃ z, Hid (apH t1 p1 m0 m1 = z) := ⟨_, rfl⟩
      obtain ⟨x2, hx2⟩ : ∃ z, Hid (apL t2 p2 m2 m3 = z) := ⟨_, rfl⟩
      obtain ⟨x3, hx3⟩ : ∃ z, Hid (apH t3 p3 m2 m3 = z) := ⟨_, rfl⟩
      have HB1 : Hid (∀ w', Calls Try.prog 131 #[.agg #[.int .i64 t0, .int .i64 t1], .int .i64 N, .agg #[.int .i64 a, .int .i64 b], .agg #[.int .i64 m0, .int .i64 m1]] w' fun e w'' => e = .returned (.agg #[.int .i64 x0, .int .i64 x1]) ∧ Below w'.heap.size w' w'') := fun w' => by
        rw [← hx0.out, ← hx1.out]; exact refBehind_any t0 t1 N a b m0 m1 p0 p1 w' pa.1 pa.2 pbb.1 pbb.2 bN.1 bN.2 a0 a1 b0 b1 bd1.1 bd1.2.1 bd1.2.2.1 bd1.2.2.2 e0 e1
      have HB2 : Hid (∀ w', Calls Try.prog 131 #[.agg #[.int .i64 t2, .int .i64 t3], .int .i64 h, .agg #[.int .i64 a, .int .i64 b], .agg #[.int .i64 m2, .int .i64 m3]] w' fun e w'' => e = .returned (.agg #[.int .i64 x2, .int .i64 x3]) ∧ Below w'.heap.size w' w'') := fun w' => by
        rw [← hx2.out, ← hx3.out]; exact refBehind_any t2 t3 h a b m2 m3 p2 p3 w' pc.1 pc.2 pd.1 pd.2 h0 h1 a0 a1 b0 b1 bd2.1 bd2.2.1 bd2.2.2.1 bd2.2.2.2 e2 e3
      have HN := Lib.hid (lcs_map (stepR s L T P p0 p1 p2 p3) k)
      rw [hda, hx0.out, hx1.out, hx2.out, hx3.out] at HN
      dsimp only at HN
      clear TL PL hda ht0 ht1 ht2 ht3 hcn hch2 hm0 hm1 hm2 hm3 hx0 hx1 hx2 hx3 pa pbb pc pd bd1 bd2 n0 n1 n2 n3
      have HS : Hid (∀ w', Below w1.heap.size w1 w' → w'.cell? ⟨w.heap.size, 0, none⟩ = some (.int .i64 a) ∧ w'.cell? ⟨w.heap.size, 1, none⟩ = some (.int .i64 b) ∧ w'.cell? ⟨g1, 0, none⟩ = some (.int .i64 o) ∧ w'.cell? ⟨g1, 1, none⟩ = some (.int .i64 h) ∧ w'.cell? ⟨pb, po + k * 4, none⟩ = some (.int .i64 t0) ∧ w'.cell? ⟨pb, po + k * 4 + 1, none⟩ = some (.int .i64 t1) ∧ w'.cell? ⟨pb, po + k * 4 + 2, none⟩ = some (.int .i64 t2) ∧ w'.cell? ⟨pb, po + k * 4 + 3, none⟩ = some (.int .i64 t3) ∧ w'.cell? ⟨tb, to' + k * 4, none⟩ = some (.int .i64 cn) ∧ w'.cell? ⟨tb, to' + k * 4 + 1, none⟩ = some (.int .i64 ch2)) := fun w' hb => ⟨(hb.cell (p := ⟨w.heap.size, 0, none⟩) lw1).trans ca, (hb.cell (p := ⟨w.heap.size, 1, none⟩) lw1).trans cb, (hb.cell (p := ⟨g1, 0, none⟩) lg).trans co, (hb.cell (p := ⟨g1, 1, none⟩) lg).trans ch, (hb.cell (p := ⟨pb, po + k * 4, none⟩) plt).trans d0, (hb.cell (p := ⟨pb, po + k * 4 + 1, none⟩) plt).trans d1, (hb.cell (p := ⟨pb, po + k * 4 + 2, none⟩) plt).trans d2, (hb.cell (p := ⟨pb, po + k * 4 + 3, none⟩) plt).trans d3, (hb.cell (p := ⟨tb, to' + k * 4, none⟩) tlt).trans c0, (hb.cell (p := ⟨tb, to' + k * 4 + 1, none⟩) tlt).trans c1⟩
      have pw : pb < wr.heap.size := by omega
      have tw : tb < wr.heap.size := by omega
      clear d0 d1 d2 d3 c0 c1 c2 c3
      go_upto_region 5 with (fail)
      have hBd : Below w1.heap.size w1 wr.drew := hB.drew
      have hB0 : Below wr.heap.size wr wr.drew := (Below.refl wr.heap.size wr).drew
      refine wp_region_held_drew (S := (fun w' => w'.cell? ⟨w.heap.size, 0, none⟩ = some (.int .i64 a) ∧ w'.cell? ⟨w.heap.size, 1, none⟩ = some (.int .i64 b) ∧ w'.cell? ⟨g1, 0, none⟩ = some (.int .i64 o) ∧ w'.cell? ⟨g1, 1, none⟩ = some (.int .i64 h) ∧ w'.cell? ⟨pb, po + k * 4, none⟩ = some (.int .i64 t0) ∧ w'.cell? ⟨pb, po + k * 4 + 1, none⟩ = some (.int .i64 t1) ∧ w'.cell? ⟨pb, po + k * 4 + 2, none⟩ = some (.int .i64 t2) ∧ w'.cell? ⟨pb, po + k * 4 + 3, none⟩ = some (.int .i64 t3) ∧ w'.cell? ⟨tb, to' + k * 4, none⟩ = some (.int .i64 cn) ∧ w'.cell? ⟨tb, to' + k * 4 + 1, none⟩ = some (.int .i64 ch2))) (by kernel_rfl) (by exact HS.out _ hBd) (fun hHeld => ?_)
      generalize hdr : wr.drew = u0 at *
      clear hdr
      refine wpAnyH_take (i := 0) (oi := ⟨some 21, _, _, _, _, _⟩) (v := ?_) rfl (by kernel_rfl) (by kernel_rfl) (by kernel_rfl) (fun _ _ _ h => h) (Or.inl ⟨by kernel_rfl, ?_⟩) (by assumption) ?_
      rotate_left
      · (intro w hSw; (try dsimp only at hSw); go_simp; all_goals with_reducible rfl)
      try simp only [Act.put, List.setIfInBounds_toArray, List.set_cons_zero, List.set_cons_succ]
      refine wpAnyH_take (i := 1) (oi := ⟨some 22, _, _, _, _, _⟩) (v := ?_) rfl (by kernel_rfl) (by kernel_rfl) (by kernel_rfl) (fun _ _ _ h => h) (Or.inl ⟨by kernel_rfl, ?_⟩) (by assumption) ?_
      rotate_left
      · (intro w hSw; (try dsimp only at hSw); go_simp; all_goals with_reducible rfl)
      try simp only [Act.put, List.setIfInBounds_toArray, List.set_cons_zero, List.set_cons_succ]
      refine wpAnyH_take (i := 2) (oi := ⟨some 23, _, _, _, _, _⟩) (v := ?_) rfl (by kernel_rfl) (by kernel_rfl) (by kernel_rfl) (fun _ _ _ h => h) (Or.inl ⟨by kernel_rfl, ?_⟩) (by assumption) ?_
      rotate_left
      · (intro w hSw; (try dsimp only at hSw); go_simp; all_goals with_reducible rfl)
      try simp only [Act.put, List.setIfInBounds_toArray, List.set_cons_zero, List.set_cons_succ]
      refine wpAnyH_take (i := 3) (oi := ⟨some 24, _, _, _, _, _⟩) (v := ?_) rfl (by kernel_rfl) (by kernel_rfl) (by kernel_rfl) (fun _ _ _ h => h) (Or.inl ⟨by kernel_rfl, ?_⟩) (by assumption) ?_
      rotate_left
      · (intro w hSw; (try dsimp only at hSw); go_simp; all_goals with_reducible rfl)
      try simp only [Act.put, List.setIfInBounds_toArray, List.set_cons_zero, List.set_cons_succ]
      refine wpAnyH_take (i := 4) (oi := ⟨some 25, _, _, _, _, _⟩) (v := ?_) rfl (by kernel_rfl) (by kernel_rfl) (by kernel_rfl) (fun _ _ _ h => h) (Or.inl ⟨by kernel_rfl, ?_⟩) (by assumption) ?_
      rotate_left
      · (intro w hSw; (try dsimp only at hSw); go_simp; all_goals with_reducible rfl)
      try simp only [Act.put, List.setIfInBounds_toArray, List.set_cons_zero, List.set_cons_succ]
      refine wpAnyH_take (i := 5) (oi := ⟨some 26, _, _, _, _, _⟩) (v := ?_) rfl (by kernel_rfl) (by kernel_rfl) (by kernel_rfl) (fun _ _ _ h => h) (Or.inl ⟨by kernel_rfl, ?_⟩) (by assumption) ?_
      rotate_left
      · (intro w hSw; (try dsimp only at hSw); go_simp; all_goals with_reducible rfl)
      try simp only [Act.put, List.setIfInBounds_toArray, List.set_cons_zero, List.set_cons_succ]
      refine wpAnyH_take (i := 6) (oi := ⟨some 27, _, _, _, _, _⟩) (v := ?_) rfl (by kernel_rfl) (by kernel_rfl) (by kernel_rfl) (fun _ _ _ h => h) (Or.inl ⟨by kernel_rfl, ?_⟩) (by assumption) ?_
      rotate_left
      · (intro w hSw; (try dsimp only at hSw); go_simp; all_goals with_reducible rfl)
      try simp only [Act.put, List.setIfInBounds_toArray, List.set_cons_zero, List.set_cons_succ]
      refine wpAnyH_take (i := 8) (oi := ⟨some 29, _, _, _, _, _⟩) (v := ?_) rfl (by kernel_rfl) (by kernel_rfl) (by kernel_rfl) (fun _ _ _ h => h) (Or.inl ⟨by kernel_rfl, ?_⟩) (by assumption) ?_
      rotate_left
      · (intro w hSw; (try dsimp only at hSw); go_simp; all_goals with_reducible rfl)
      try simp only [Act.put, List.setIfInBounds_toArray, List.set_cons_zero, List.set_cons_succ]
      refine wpAnyH_take (i := 9) (oi := ⟨some 30, _, _, _, _, _⟩) (v := ?_) rfl (by kernel_rfl) (by kernel_rfl) (by kernel_rfl) (fun _ _ _ h => h) (Or.inl ⟨by kernel_rfl, ?_⟩) (by assumption) ?_
      rotate_left
      · (intro w hSw; (try dsimp only at hSw); go_simp; all_goals with_reducible rfl)
      try simp only [Act.put, List.setIfInBounds_toArray, List.set_cons_zero, List.set_cons_succ]
      refine wpAnyH_take (i := 10) (oi := ⟨some 31, _, _, _, _, _⟩) (v := ?_) rfl (by kernel_rfl) (by kernel_rfl) (by kernel_rfl) (fun _ _ _ h => h) (Or.inl ⟨by kernel_rfl, ?_⟩) (by assumption) ?_
      rotate_left
      · (intro w hSw; (try dsimp only at hSw); go_simp; all_goals with_reducible rfl)
      try simp only [Act.put, List.setIfInBounds_toArray, List.set_cons_zero, List.set_cons_succ]
      refine wpAnyH_take (i := 11) (oi := ⟨some 32, _, _, _, _, _⟩) (v := ?_) rfl (by kernel_rfl) (by kernel_rfl) (by kernel_rfl) (fun _ _ _ h => h) (Or.inl ⟨by kernel_rfl, ?_⟩) (by assumption) ?_
      rotate_left
      · (intro w hSw; (try dsimp only at hSw); go_simp; all_goals with_reducible rfl)
      try simp only [Act.put, List.setIfInBounds_toArray, List.set_cons_zero, List.set_cons_succ]
      refine wpAnyH_take (i := 12) (oi := ⟨some 33, _, _, _, _, _⟩) (v := ?_) rfl (by kernel_rfl) (by kernel_rfl) (by kernel_rfl) (fun _ _ _ h => h) (Or.inl ⟨by kernel_rfl, ?_⟩) (by assumption) ?_
      rotate_left
      · (intro w hSw; (try dsimp only at hSw); go_simp; all_goals with_reducible rfl)
      try simp only [Act.put, List.setIfInBounds_toArray, List.set_cons_zero, List.set_cons_succ]
      refine wpAnyH_take (i := 13) (oi := ⟨some 34, _, _, _, _, _⟩) (v := ?_) rfl (by kernel_rfl) (by kernel_rfl) (by kernel_rfl) (fun _ _ _ h => h) (Or.inl ⟨by kernel_rfl, ?_⟩) (by assumption) ?_
      rotate_left
      · (intro w hSw; (try dsimp only at hSw); go_simp; all_goals with_reducible rfl)
      try simp only [Act.put, List.setIfInBounds_toArray, List.set_cons_zero, List.set_cons_succ]
      refine wpAnyH_take (i := 14) (oi := ⟨some 35, _, _, _, _, _⟩) (v := ?_) rfl (by kernel_rfl) (by kernel_rfl) (by kernel_rfl) (fun _ _ _ h => h) (Or.inl ⟨by kernel_rfl, ?_⟩) (by assumption) ?_
      rotate_left
      · (intro w hSw; (try dsimp only at hSw); go_simp; all_goals with_reducible rfl)
      try simp only [Act.put, List.setIfInBounds_toArray, List.set_cons_zero, List.set_cons_succ]
      refine wpAnyH_take (i := 15) (oi := ⟨some 36, _, _, _, _, _⟩) (v := ?_) rfl (by kernel_rfl) (by kernel_rfl) (by kernel_rfl) (fun _ _ _ h => h) (Or.inl ⟨by kernel_rfl, ?_⟩) (by assumption) ?_
      rotate_left
      · (intro w hSw; (try dsimp only at hSw); go_simp; all_goals with_reducible rfl)
      try simp only [Act.put, List.setIfInBounds_toArray, List.set_cons_zero, List.set_cons_succ]
      refine wpAnyH_take (i := 18) (oi := ⟨some 39, _, _, _, _, _⟩) (v := ?_) rfl (by kernel_rfl) (by kernel_rfl) (by kernel_rfl) (fun _ _ _ h => h) (Or.inl ⟨by kernel_rfl, ?_⟩) (by assumption) ?_
      rotate_left
      · (intro w hSw; (try dsimp only at hSw); go_simp; all_goals with_reducible rfl)
      try simp only [Act.put, List.setIfInBounds_toArray, List.set_cons_zero, List.set_cons_succ]
      refine wpAnyH_take (i := 19) (oi := ⟨some 40, _, _, _, _, _⟩) (v := ?_) rfl (by kernel_rfl) (by kernel_rfl) (by kernel_rfl) (fun _ _ _ h => h) (Or.inl ⟨by kernel_rfl, ?_⟩) (by assumption) ?_
      rotate_left
      · (intro w hSw; (try dsimp only at hSw); go_simp; all_goals with_reducible rfl)
      try simp only [Act.put, List.setIfInBounds_toArray, List.set_cons_zero, List.set_cons_succ]
      refine wpAnyH_take (i := 20) (oi := ⟨some 41, _, _, _, _, _⟩) (v := ?_) rfl (by kernel_rfl) (by kernel_rfl) (by kernel_rfl) (fun _ _ _ h => h) (Or.inl ⟨by kernel_rfl, ?_⟩) (by assumption) ?_
      rotate_left
      · (intro w hSw; (try dsimp only at hSw); go_simp; all_goals with_reducible rfl)
      try simp only [Act.put, List.setIfInBounds_toArray, List.set_cons_zero, List.set_cons_succ]
      refine wpAnyH_take (i := 21) (oi := ⟨some 42, _, _, _, _, _⟩) (v := ?_) rfl (by kernel_rfl) (by kernel_rfl) (by kernel_rfl) (fun _ _ _ h => h) (Or.inl ⟨by kernel_rfl, ?_⟩) (by assumption) ?_
      rotate_left
      · (intro w hSw; (try dsimp only at hSw); go_simp; all_goals with_reducible rfl)
      try simp only [Act.put, List.setIfInBounds_toArray, List.set_cons_zero, List.set_cons_succ]
      refine wpAnyH_take (i := 22) (oi := ⟨some 43, _, _, _, _, _⟩) (v := ?_) rfl (by kernel_rfl) (by kernel_rfl) (by kernel_rfl) (fun _ _ _ h => h) (Or.inl ⟨by kernel_rfl, ?_⟩) (by assumption) ?_
      rotate_left
      · (intro w hSw; (try dsimp only at hSw); go_simp; all_goals with_reducible rfl)
      try simp only [Act.put, List.setIfInBounds_toArray, List.set_cons_zero, List.set_cons_succ]
      refine wpAnyH_take (i := 23) (oi := ⟨some 44, _, _, _, _, _⟩) (v := ?_) rfl (by kernel_rfl) (by kernel_rfl) (by kernel_rfl) (fun _ _ _ h => h) (Or.inl ⟨by kernel_rfl, ?_⟩) (by assumption) ?_
      rotate_left
      · (intro w hSw; (try dsimp only at hSw); go_simp; all_goals with_reducible rfl)
      try simp only [Act.put, List.setIfInBounds_toArray, List.set_cons_zero, List.set_cons_succ]
      refine wpAnyH_take (i := 24) (oi := ⟨some 45, _, _, _, _, _⟩) (v := ?_) rfl (by kernel_rfl) (by kernel_rfl) (by kernel_rfl) (fun _ _ _ h => h) (Or.inl ⟨by kernel_rfl, ?_⟩) (by assumption) ?_
      rotate_left
      · (intro w hSw; (try dsimp only at hSw); go_simp; all_goals with_reducible rfl)
      try simp only [Act.put, List.setIfInBounds_toArray, List.set_cons_zero, List.set_cons_succ]
      refine wpAnyH_take (i := 25) (oi := ⟨some 46, _, _, _, _, _⟩) (v := ?_) rfl (by kernel_rfl) (by kernel_rfl) (by kernel_rfl) (fun _ _ _ h => h) (Or.inl ⟨by kernel_rfl, ?_⟩) (by assumption) ?_
      rotate_left
      · (intro w hSw; (try dsimp only at hSw); go_simp; all_goals with_reducible rfl)
      try simp only [Act.put, List.setIfInBounds_toArray, List.set_cons_zero, List.set_cons_succ]
      refine wpAnyH_take (i := 26) (oi := ⟨some 47, _, _, _, _, _⟩) (v := ?_) rfl (by kernel_rfl) (by kernel_rfl) (by kernel_rfl) (fun _ _ _ h => h) (Or.inl ⟨by kernel_rfl, ?_⟩) (by assumption) ?_
      rotate_left
      · (intro w hSw; (try dsimp only at hSw); go_simp; all_goals with_reducible rfl)
      try simp only [Act.put, List.setIfInBounds_toArray, List.set_cons_zero, List.set_cons_succ]
      refine wpAnyH_take (i := 27) (oi := ⟨some 48, _, _, _, _, _⟩) (v := ?_) rfl (by kernel_rfl) (by kernel_rfl) (by kernel_rfl) (fun _ _ _ h => h) (Or.inl ⟨by kernel_rfl, ?_⟩) (by assumption) ?_
      rotate_left
      · (intro w hSw; (try dsimp only at hSw); go_simp; all_goals with_reducible rfl)
      try simp only [Act.put, List.setIfInBounds_toArray, List.set_cons_zero, List.set_cons_succ]
      refine wpAnyH_take (i := 28) (oi := ⟨some 49, _, _, _, _, _⟩) (v := ?_) rfl (by kernel_rfl) (by kernel_rfl) (by kernel_rfl) (fun _ _ _ h => h) (Or.inl ⟨by kernel_rfl, ?_⟩) (by assumption) ?_
      rotate_left
      · (intro w hSw; (try dsimp only at hSw); go_simp; all_goals with_reducible rfl)
      try simp only [Act.put, List.setIfInBounds_toArray, List.set_cons_zero, List.set_cons_succ]
      refine wpAnyH_take (i := 29) (oi := ⟨some 50, _, _, _, _, _⟩) (v := ?_) rfl (by kernel_rfl) (by kernel_rfl) (by kernel_rfl) (fun _ _ _ h => h) (Or.inl ⟨by kernel_rfl, ?_⟩) (by assumption) ?_
      rotate_left
      · (intro w hSw; (try dsimp only at hSw); go_simp; all_goals with_reducible rfl)
      try simp only [Act.put, List.setIfInBounds_toArray, List.set_cons_zero, List.set_cons_succ]
      refine wpAnyH_take (i := 30) (oi := ⟨some 51, _, _, _, _, _⟩) (v := ?_) rfl (by kernel_rfl) (by kernel_rfl) (by kernel_rfl) (fun _ _ _ h => h) (Or.inl ⟨by kernel_rfl, ?_⟩) (by assumption) ?_
      rotate_left
      · (intro w hSw; (try dsimp only at hSw); go_simp; all_goals with_reducible rfl)
      try simp only [Act.put, List.setIfInBounds_toArray, List.set_cons_zero, List.set_cons_succ]
      refine wpAnyH_take (i := 31) (oi := ⟨some 52, _, _, _, _, _⟩) (v := ?_) rfl (by kernel_rfl) (by kernel_rfl) (by kernel_rfl) (fun _ _ _ h => h) (Or.inl ⟨by kernel_rfl, ?_⟩) (by assumption) ?_
      rotate_left
      · (intro w hSw; (try dsimp only at hSw); go_simp; all_goals with_reducible rfl)
      try simp only [Act.put, List.setIfInBounds_toArray, List.set_cons_zero, List.set_cons_succ]
      refine wpAnyH_take (i := 32) (oi := ⟨some 53, _, _, _, _, _⟩) (v := ?_) rfl (by kernel_rfl) (by kernel_rfl) (by kernel_rfl) (fun _ _ _ h => h) (Or.inl ⟨by kernel_rfl, ?_⟩) (by assumption) ?_
      rotate_left
      · (intro w hSw; (try dsimp only at hSw); go_simp; all_goals with_reducible rfl)
      try simp only [Act.put, List.setIfInBounds_toArray, List.set_cons_zero, List.set_cons_succ]
      refine wpAnyH_ready (rs := [7]) (by kernel_rfl) (by simp) ?_
      refine AllReadyH.cons rfl (fun K hK => ?_) AllReadyH.nil
      go_simp
      refine (HNi.out _).mono ?_
      rintro e v1 ⟨rfl, hv1⟩
      have hV1 : Below wr.heap.size wr v1 := hB0.trans (hv1.mono hB0.size)
      have hW1 : Below w1.heap.size w1 v1 := hB.trans (hV1.mono sz)
      clear hv1
      go_wp2_with fail
      refine hK.out _ _ (by exact HS.out _ hW1) (fun hHeld => ?_)
      clear hK K
      try simp only [Act.put, List.setIfInBounds_toArray, List.set_cons_zero, List.set_cons_succ]
      refine wpAnyH_ready (rs := [16]) (by kernel_rfl) (by simp) ?_
      refine AllReadyH.cons rfl (fun K hK => ?_) AllReadyH.nil
      go_simp
      refine (HD1.out _ hW1).mono ?_
      rintro e v2 ⟨rfl, hv2⟩
      have hV2 : Below wr.heap.size wr v2 := hV1.trans (hv2.mono hV1.size)
      have hW2 : Below w1.heap.size w1 v2 := hB.trans (hV2.mono sz)
      clear hv2
      go_wp2_with fail
      refine hK.out _ _ (by exact HS.out _ hW2) (fun hHeld => ?_)
      clear hK K
      try simp only [Act.put, List.setIfInBounds_toArray, List.set_cons_zero, List.set_cons_succ]
      refine wpAnyH_ready (rs := [17]) (by kernel_rfl) (by simp) ?_
      refine AllReadyH.cons rfl (fun K hK => ?_) AllReadyH.nil
      go_simp
      refine (HB1.out _).mono ?_
      rintro e v3 ⟨rfl, hv3⟩
      have hV3 : Below wr.heap.size wr v3 := hV2.trans (hv3.mono hV2.size)
      have hW3 : Below w1.heap.size w1 v3 := hB.trans (hV3.mono sz)
      clear hv3
      go_wp2_with fail
      refine hK.out _ _ (by exact HS.out _ hW3) (fun hHeld => ?_)
      clear hK K
      try simp only [Act.put, List.setIfInBounds_toArray, List.set_cons_zero, List.set_cons_succ]
      refine wpAnyH_ready (rs := [33]) (by kernel_rfl) (by simp) ?_
      refine AllReadyH.cons rfl (fun K hK => ?_) AllReadyH.nil
      go_simp
      refine (HD2.out _ hW3).mono ?_
      rintro e v4 ⟨rfl, hv4⟩
      have hV4 : Below wr.heap.size wr v4 := hV3.trans (hv4.mono hV3.size)
      have hW4 : Below w1.heap.size w1 v4 := hB.trans (hV4.mono sz)
      clear hv4
      go_wp2_with fail
      refine hK.out _ _ (by exact HS.out _ hW4) (fun hHeld => ?_)
      clear hK K
      try simp only [Act.put, List.setIfInBounds_toArray, List.set_cons_zero, List.set_cons_succ]
      refine wpAnyH_ready (rs := [34]) (by kernel_rfl) (by simp) ?_
      refine AllReadyH.cons rfl (fun K hK => ?_) AllReadyH.nil
      go_simp
      refine (HB2.out _).mono ?_
      rintro e v5 ⟨rfl, hv5⟩
      have hV5 : Below wr.heap.size wr v5 := hV4.trans (hv5.mono hV4.size)
      have hW5 : Below w1.heap.size w1 v5 := hB.trans (hV5.mono sz)
      clear hv5
      go_wp2_with fail
      refine hK.out _ _ (by exact HS.out _ hW5) (fun hHeld => ?_)
      clear hK K
      try simp only [Act.put, List.setIfInBounds_toArray, List.set_cons_zero, List.set_cons_succ]
      refine wpAnyH_take (i := 35) (oi := ⟨some 56, _, _, _, _, _⟩) (v := ?_) rfl (by kernel_rfl) (by kernel_rfl) (by kernel_rfl) (fun _ _ _ h => h) (Or.inl ⟨by kernel_rfl, ?_⟩) (by assumption) ?_
      rotate_left
      · (intro w hSw; (try dsimp only at hSw); go_simp; all_goals with_reducible rfl)
      try simp only [Act.put, List.setIfInBounds_toArray, List.set_cons_zero, List.set_cons_succ]
      refine wpAnyH_ready (rs := [36]) (by kernel_rfl) (by simp) ?_
      refine AllReadyH.cons rfl (fun K hK => ?_) AllReadyH.nil
      go_simp
      go_wp2_with fail
      refine hK.out _ _ (HS.out _ (hW5.alloc hW5.size _)) (fun hHeld => ?_)
      clear hK K
      try simp only [Act.put, List.setIfInBounds_toArray, List.set_cons_zero, List.set_cons_succ]
      refine wpAnyH_ready (rs := [37]) (by kernel_rfl) (by simp) ?_
      refine AllReadyH.cons rfl (fun K hK => ?_) AllReadyH.nil
      rw [if_pos (by kernel_rfl)]
      have su5 := hW5.size
      have HO5 := Lib.hid (own_below HO.out hV5 (Nat.le_refl _))
      refine oper_append_own_at _ _ 36 rfl w1.heap.size 45 i0 (.agg #[.int .i64 0, .int .i64 0, .int .i64 0, .int .i64 0]) 4 32 Try.underlying36 HI.out HZ0.out HZ1.out HZ2.out rfl (by decide) _ _ _ rfl (HO5.out.alloc _) ⟨v5.heap.size, 0, none⟩ 1 1 [.int .i64 x0, .int .i64 x1, .int .i64 x2, .int .i64 x3] rfl rfl ?c0 ?c1 ?c2 ?c3 ?c4 ?_
      case c0 =>
        intro j u hj
        match j, hj with
        | 0, hj => simp at hj; subst hj; simp [Addr.add, go_sem]
        | 1, hj => simp at hj; subst hj; simp [Addr.add, go_sem]
        | 2, hj => simp at hj; subst hj; simp [Addr.add, go_sem]
        | 3, hj => simp at hj; subst hj; simp [Addr.add, go_sem]
      case c1 => intro u hu; simp at hu; rcases hu with rfl | rfl | rfl | rfl <;> rfl
      case c2 => unfold maxLen; omega
      case c3 => omega
      case c4 => simp; omega
      intro v' w5 hown hgrow
      have ob := HO.out.lt
      have hB5 : Below w1.heap.size w1 w5 := (hW5.alloc hW5.size _).grown hgrow (by simp; omega) (fun k hk => (ob k hk).1)
      have HOW : Hid (w5.ownsRow w1.heap.size 45 4 v' (k + 1) (lcs ((List.range (k + 1)).map (stepR s L T P p0 p1 p2 p3)))) := by
        show World.ownsRow _ _ _ _ _ _ _
        rw [HN.out]
        exact hown
      clear hown hgrow ob HO HO5 HN
      refine hK.out _ _ (HS.out _ hB5) (fun hHeld => ?_)
      clear hK K
      try simp only [Act.put, List.setIfInBounds_toArray, List.set_cons_zero, List.set_cons_succ]
      refine wpAnyH_take (i := 38) (oi := ⟨some 13, _, _, _, _, _⟩) (v := ?_) rfl (by kernel_rfl) (by kernel_rfl) (by kernel_rfl) (fun _ _ _ h => h) (Or.inl ⟨by kernel_rfl, ?_⟩) (by assumption) ?_
      rotate_left
      · (intro w hSw; (try dsimp only at hSw); go_simp; all_goals with_reducible rfl)
      try simp only [Act.put, List.setIfInBounds_toArray, List.set_cons_zero, List.set_cons_succ]
      refine wpAnyH_done (by kernel_rfl) ?_ _
      go_wp2
      go_roundw
      case rel => exact ⟨k + 1, by omega, by go_num, HOW, hB5⟩
      case measure => (simp [intOf]) <;> omega
    · have hkl2 : ¬ (k : Int) < T.length := by omega
      have hkk : k = T.length := by omega
      have HO2 := HO.out
      rw [hkk] at HO2
      have hle : ((List.range T.length).map (stepR s L T P p0 p1 p2 p3)).length = T.length := by simp
      obtain ⟨A', cap2, rfl, hS, _⟩ := SlLd_own (P := (List.range T.length).map (stepR s L T P p0 p1 p2 p3)) (by rw [hle]; exact HO2)
      rw [hle]
      have HSS := Lib.hid hS
      clear HO HO2 hS hkk hle
      go_wp2
      go_ret
      exact ⟨A', cap2, rfl, HSS.out, hBw⟩
end Go.Proofs.Ytchfhhmmjioajaa
