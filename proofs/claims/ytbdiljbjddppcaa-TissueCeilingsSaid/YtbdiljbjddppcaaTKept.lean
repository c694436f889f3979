/- Whether loads keep the limits at a pressure: tissue.keptAt. -/
import Derived.Test.YtbdiljbjddppcaaTLim
import Derived.Test.YtbdiljbjddppcaaTCeil
import Derived.Deep.CutRange
import Derived.Deep.CutBlock
import Derived.Outline
namespace Go.Proofs.Ytbdiljbjddppcaa
open Go.ChangeShapes Go.WideShapes Go.ChangeAt Go.RowKit
set_option linter.unusedVariables false
set_option linter.unusedSimpArgs false
attribute [local go_sem ↓] Go.wp_at_zero Go.wp_at_succ
/-- Whether loads keep the limits, with an answer so far: 0 not, 1 perhaps, 2 surely. -/
def keptR (p f : Int) : List Cm → List Ld → Int → Int
  | x :: T, y :: L, a => if 1000 * (y.a + y.c) ≤ limV x.b x.s f p then keptR p f T L (if 1000 * (y.b + y.d) ≤ limV x.b x.s f p then a else 1) else 0
  | _, _, a => a
theorem keptR_drop {p f : Int} {T : List Cm} {L : List Ld} {k : Nat} (hk : k < T.length) (hk' : k < L.length) (a : Int) : keptR p f (T.drop k) (L.drop k) a = if 1000 * (L[k].a + L[k].c) ≤ limV T[k].b T[k].s f p then keptR p f (T.drop (k + 1)) (L.drop (k + 1)) (if 1000 * (L[k].b + L[k].d) ≤ limV T[k].b T[k].s f p then a else 1) else 0 := by
  rw [List.drop_eq_getElem_cons hk, List.drop_eq_getElem_cons hk', keptR]
theorem keptR_end {p f : Int} {T : List Cm} {L : List Ld} {k : Nat} (hk : T.length ≤ k) (a : Int) : keptR p f (T.drop k) (L.drop k) a = a := by
  rw [List.drop_eq_nil_of_le hk, keptR]
  intro x T' y L' h; cases h
theorem cmp_ok {x : Cm} (h : compE x = 0) : (1 ≤ x.n ∧ x.n ≤ 100000) ∧ (1 ≤ x.h ∧ x.h ≤ 100000) ∧ (0 ≤ x.b ∧ x.b ≤ 10000) ∧ (1000 ≤ x.s ∧ x.s ≤ 10000) := by
  unfold compE cmpE at h
  rcases inB_cases x.n 1 100000 with h1 | h1
  · rcases inB_cases x.h 1 100000 with h2 | h2
    · rcases inB_cases x.b 0 10000 with h3 | h3
      · rcases inB_cases x.s 1000 10000 with h4 | h4
        · exact ⟨inB_iff.1 h1, inB_iff.1 h2, inB_iff.1 h3, inB_iff.1 h4⟩
        · rw [rngE_t h1, rngE_t h2, rngE_t h3, rngE_f h4] at h; simp [firE] at h
      · rw [rngE_t h1, rngE_t h2, rngE_f h3] at h; simp [firE] at h
    · rw [rngE_t h1, rngE_f h2] at h; simp [firE] at h
  · rw [rngE_f h1] at h; simp [firE] at h
/-- A right table with right loads. -/
structure Fit (T : List Cm) (L : List Ld) : Prop where
  len : L.length = T.length
  one : 1 ≤ T.length
  most : T.length ≤ 16
  cm : ∀ k, (hk : k < T.length) → compE T[k] = 0
  ld : ∀ k, (hk : k < L.length) → loadE L[k] = 0
theorem fit_of {T : List Cm} {L : List Ld} (h : loadsE T L = 0) : Fit T L := by
  unfold loadsE at h
  by_cases ht : tabE T = 0
  · rw [if_pos ht] at h
    by_cases hl : L.length = T.length
    · rw [if_pos hl] at h
      unfold tabE at ht
      rcases inB_cases (T.length : Int) 1 16 with h1 | h1
      · rw [if_pos h1] at ht
        have := inB_iff.1 h1
        exact ⟨hl, by omega, by omega, fun k hk => fstE_all ht k hk, fun k hk => fstE_all h k hk⟩
      · rw [if_neg (by rw [h1]; exact Bool.false_ne_true)] at ht; cases ht
    · rw [if_neg hl] at h; cases h
  · rw [if_neg ht] at h; exact absurd h ht
set_option maxRecDepth 100000 in
set_option maxHeartbeats 4000000 in
theorem keptAt_any (T : List Cm) (L : List Ld) (A B : Option Addr) (cap cap' : Nat) (p f E : Int) (w : World) (HFit : Hid (Fit T L)) (p0 : 400 ≤ p) (p1 : p ≤ 31100) (f0 : 0 ≤ f) (f1 : f ≤ 1000) (hE : Hid (keptR p f T L 2 = E)) (HT : Hid (SlCm w A T)) (HL : Hid (SlLd w B L)) :
    Calls Try.prog 69 #[.slice A T.length cap, .slice B L.length cap', .int .i64 p, .int .i64 f] w fun e w' => e = .returned (.int .i64 E) ∧ Below w.heap.size w w' := by
  have hlen : T.length ≤ L.length := by rw [HFit.out.len]; exact Nat.le_refl _
  have hmost := HFit.out.most
  go_enter Try.func69, Try.ntmps69
  go_wp2
  go_loopw [9, 16] (fun a i wr => ∃ (k : Nat) (x : Int), k ≤ T.length ∧ i = .int .i64 k ∧ a = .int .i64 x ∧ Hid (keptR p f (T.drop k) (L.drop k) x = E) ∧ Below w.heap.size w wr) (fun _ i _ => T.length - (intOf i).toNat)
  case atStart => exact ⟨0, 2, by omega, rfl, rfl, hE, (by (repeat (first | (with_reducible refine Below.drew ?_) | (with_reducible refine below_drewN ?_ _) | (with_reducible refine Below.alloc ?_ (by first | omega | (simp; done) | (simp; omega) | (simp at *; omega)) _) | (with_reducible refine Below.setCell ?_ (by first | omega | (simp; done) | (simp; omega) | (simp at *; omega)) _) | (with_reducible exact Below.refl _ _) | (with_reducible assumption) | (with_reducible refine Below.trans ?_ (Below.mono (by assumption) (by first | omega | (simp; done) | (simp; omega) | (simp at *; omega)))))))⟩
  case round =>
    clear hE
    obtain ⟨k, x, hk, rfl, rfl, hx, hB⟩ := hrel
    by_cases hkl : k < T.length
    · have hkl2 : (k : Int) < T.length := by omega
      have hkl' : k < L.length := by omega
      have hkl3 : (k : Int) < L.length := by omega
      rcases (HT.out.below hB : SlCm wr A T) with hnil | ⟨pb, po, hAA, plt, PT⟩
      · rw [hnil] at hkl; simp at hkl
      rcases (HL.out.below hB : SlLd wr B L) with hnil | ⟨lb, lo, hBB, llt, PL⟩
      · rw [hnil] at hkl'; simp at hkl'
      subst hAA hBB
      obtain ⟨c0, c1, c2, c3⟩ := PT k hkl
      obtain ⟨d0, d1, d2, d3⟩ := PL k hkl'
      obtain ⟨q1, q2, q3, q4⟩ := cmp_ok (HFit.out.cm k hkl)
      obtain ⟨q5, q6⟩ := lodE_ok (HFit.out.ld k hkl')
      have hst := keptR_drop (p := p) (f := f) hkl hkl' x
      rw [hx.out] at hst
      obtain ⟨n, hn⟩ : ∃ z, Hid (T[k].n = z) := ⟨T[k].n, rfl⟩
      obtain ⟨h, hh⟩ : ∃ z, Hid (T[k].h = z) := ⟨T[k].h, rfl⟩
      obtain ⟨b, hb⟩ : ∃ z, Hid (T[k].b = z) := ⟨T[k].b, rfl⟩
      obtain ⟨s, hs⟩ : ∃ z, Hid (T[k].s = z) := ⟨T[k].s, rfl⟩
      obtain ⟨la, hla⟩ : ∃ z, Hid (L[k].a = z) := ⟨L[k].a, rfl⟩
      obtain ⟨lb', hlb⟩ : ∃ z, Hid (L[k].b = z) := ⟨L[k].b, rfl⟩
      obtain ⟨lc, hlc⟩ : ∃ z, Hid (L[k].c = z) := ⟨L[k].c, rfl⟩
      obtain ⟨ld', hld⟩ : ∃ z, Hid (L[k].d = z) := ⟨L[k].d, rfl⟩
      rw [hn.out] at c0
      rw [hh.out] at c1
      rw [hb.out] at c2 q3 hst
      rw [hs.out] at c3 q4 hst
      rw [hla.out] at d0 q5 hst
      rw [hlb.out] at d1 q5 hst
      rw [hlc.out] at d2 q6 hst
      rw [hld.out] at d3 q6 hst
      obtain ⟨P, hP⟩ : ∃ z, Hid (f * 1000 * b = z) := ⟨_, rfl⟩
      obtain ⟨Q, hQ⟩ : ∃ z, Hid (1000000 + f * (s - 1000) = z) := ⟨_, rfl⟩
      obtain ⟨X, hX⟩ : ∃ z, Hid (la + lc = z) := ⟨_, rfl⟩
      obtain ⟨Y, hY⟩ : ∃ z, Hid (lb' + ld' = z) := ⟨_, rfl⟩
      obtain ⟨V, hV⟩ : ∃ z, Hid (limV b s f p = z) := ⟨_, rfl⟩
      have bb := base_bd f0 f1 q3.1 q3.2
      have ss := slope_bd f0 f1 q4.1 q4.2
      rw [hP.out] at bb
      rw [hQ.out] at ss
      have hVV : Hid (P + Q * p = V) := by show _ = _; rw [← hP.out, ← hQ.out]; exact hV.out
      have x0 : 0 ≤ X ∧ X ≤ 200000000 := by rw [← hX.out]; omega
      have y0 : 0 ≤ Y ∧ Y ≤ 200000000 := by rw [← hY.out]; omega
      rw [hX.out, hY.out, hV.out] at hst
      have HL1 := Lib.hid (fun w => limitOf_x n h b s f P Q w ⟨f0, f1⟩ q3 q4 hP.out hQ.out)
      have HE1 := Lib.hid (fun w => endsOf_x la lb' lc ld' X Y w ⟨by omega, by omega⟩ ⟨by omega, by omega⟩ ⟨by omega, by omega⟩ ⟨by omega, by omega⟩ hX.out hY.out)
      have HST := Lib.hid hst
      clear hst hx PT PL hn hh hb hs hla hlb hlc hld hP hQ hX hY hV q1 q2 q3 q4 q5 q6
      go_upto_region 5 with (fail)
      generalize hw4 : wr.alloc (.cells #[.int .i64 n, .int .i64 h, .int .i64 b, .int .i64 s] 56) = w4
      have hb4 : Below wr.heap.size wr w4 := by rw [← hw4]; exact (Below.refl _ _).alloc (Nat.le_refl _) _
      have e0 : w4.cell? ⟨wr.heap.size, 0, none⟩ = some (.int .i64 n) := by rw [← hw4]; simp [go_sem]
      have e1 : w4.cell? ⟨wr.heap.size, 1, none⟩ = some (.int .i64 h) := by rw [← hw4]; simp [go_sem]
      have e2 : w4.cell? ⟨wr.heap.size, 2, none⟩ = some (.int .i64 b) := by rw [← hw4]; simp [go_sem]
      have e3 : w4.cell? ⟨wr.heap.size, 3, none⟩ = some (.int .i64 s) := by rw [← hw4]; simp [go_sem]
      have l11 : wr.heap.size < w4.heap.size := by rw [← hw4]; simp
      have hB4 : Below w.heap.size w w4 := hB.trans (hb4.mono hB.size)
      have mq : lb < w4.heap.size := by omega
      replace d0 := (hb4.cell (p := ⟨lb, lo + k * 4, none⟩) llt).trans d0
      replace d1 := (hb4.cell (p := ⟨lb, lo + k * 4 + 1, none⟩) llt).trans d1
      replace d2 := (hb4.cell (p := ⟨lb, lo + k * 4 + 2, none⟩) llt).trans d2
      replace d3 := (hb4.cell (p := ⟨lb, lo + k * 4 + 3, none⟩) llt).trans d3
      clear hw4 hb4 hB c0 c1 c2 c3
      go_cut [12, 13, 16] from 16 to 41 (fun s12 s13 s16 wx => s16 = .int .i64 k ∧ R8 w4 P Q X Y s12 s13 wx)
      case first =>
        have HS : ∀ w', Below w4.heap.size w4 w' → w'.cell? ⟨wr.heap.size, 0, none⟩ = some (.int .i64 n) ∧ w'.cell? ⟨wr.heap.size, 1, none⟩ = some (.int .i64 h) ∧ w'.cell? ⟨wr.heap.size, 2, none⟩ = some (.int .i64 b) ∧ w'.cell? ⟨wr.heap.size, 3, none⟩ = some (.int .i64 s) ∧ w'.cell? ⟨lb, lo + k * 4, none⟩ = some (.int .i64 la) ∧ w'.cell? ⟨lb, lo + k * 4 + 1, none⟩ = some (.int .i64 lb') ∧ w'.cell? ⟨lb, lo + k * 4 + 2, none⟩ = some (.int .i64 lc) ∧ w'.cell? ⟨lb, lo + k * 4 + 3, none⟩ = some (.int .i64 ld') := fun w' hb => ⟨(hb.cell (p := ⟨wr.heap.size, 0, none⟩) l11).trans e0, (hb.cell (p := ⟨wr.heap.size, 1, none⟩) l11).trans e1, (hb.cell (p := ⟨wr.heap.size, 2, none⟩) l11).trans e2, (hb.cell (p := ⟨wr.heap.size, 3, none⟩) l11).trans e3, (hb.cell (p := ⟨lb, lo + k * 4, none⟩) mq).trans d0, (hb.cell (p := ⟨lb, lo + k * 4 + 1, none⟩) mq).trans d1, (hb.cell (p := ⟨lb, lo + k * 4 + 2, none⟩) mq).trans d2, (hb.cell (p := ⟨lb, lo + k * 4 + 3, none⟩) mq).trans d3⟩
        have HS' := Lib.hid HS
        clear HS
        refine wp_region_held_drew (S := (fun w' => w'.cell? ⟨wr.heap.size, 0, none⟩ = some (.int .i64 n) ∧ w'.cell? ⟨wr.heap.size, 1, none⟩ = some (.int .i64 h) ∧ w'.cell? ⟨wr.heap.size, 2, none⟩ = some (.int .i64 b) ∧ w'.cell? ⟨wr.heap.size, 3, none⟩ = some (.int .i64 s) ∧ w'.cell? ⟨lb, lo + k * 4, none⟩ = some (.int .i64 la) ∧ w'.cell? ⟨lb, lo + k * 4 + 1, none⟩ = some (.int .i64 lb') ∧ w'.cell? ⟨lb, lo + k * 4 + 2, none⟩ = some (.int .i64 lc) ∧ w'.cell? ⟨lb, lo + k * 4 + 3, none⟩ = some (.int .i64 ld'))) (by kernel_rfl) (by exact HS'.out _ (Below.refl w4.heap.size w4).drew) (fun hHeld => ?_)
        refine wpAnyH_take (i := 0) (oi := ⟨some 21, _, _, _, _, _⟩) (v := ?_) rfl (by kernel_rfl) (by kernel_rfl) (by kernel_rfl) (fun _ _ _ h => h) (Or.inl ⟨by kernel_rfl, ?_⟩) (by assumption) ?_
        rotate_left
        · (intro w hSw; (try dsimp only at hSw); go_simp; all_goals with_reducible rfl)
        try simp only [Act.put, List.setIfInBounds_toArray, List.set_cons_zero, List.set_cons_succ]
        refine wpAnyH_take (i := 1) (oi := ⟨some 22, _, _, _, _, _⟩) (v := ?_) rfl (by kernel_rfl) (by kernel_rfl) (by kernel_rfl) (fun _ _ _ h => h) (Or.inl ⟨by kernel_rfl, ?_⟩) (by assumption) ?_
        rotate_left
        · (intro w hSw; (try dsimp only at hSw); go_simp; all_goals with_reducible rfl)
        try simp only [Act.put, List.setIfInBounds_toArray, List.set_cons_zero, List.set_cons_succ]
        refine wpAnyH_take (i := 3) (oi := ⟨some 24, _, _, _, _, _⟩) (v := ?_) rfl (by kernel_rfl) (by kernel_rfl) (by kernel_rfl) (fun _ _ _ h => h) (Or.inl ⟨by kernel_rfl, ?_⟩) (by assumption) ?_
        rotate_left
        · (intro w hSw; (try dsimp only at hSw); go_simp; all_goals with_reducible rfl)
        try simp only [Act.put, List.setIfInBounds_toArray, List.set_cons_zero, List.set_cons_succ]
        refine wpAnyH_take (i := 4) (oi := ⟨some 25, _, _, _, _, _⟩) (v := ?_) rfl (by kernel_rfl) (by kernel_rfl) (by kernel_rfl) (fun _ _ _ h => h) (Or.inl ⟨by kernel_rfl, ?_⟩) (by assumption) ?_
        rotate_left
        · (intro w hSw; (try dsimp only at hSw); go_simp; all_goals with_reducible rfl)
        try simp only [Act.put, List.setIfInBounds_toArray, List.set_cons_zero, List.set_cons_succ]
        refine wpAnyH_take (i := 5) (oi := ⟨some 26, _, _, _, _, _⟩) (v := ?_) rfl (by kernel_rfl) (by kernel_rfl) (by kernel_rfl) (fun _ _ _ h => h) (Or.inl ⟨by kernel_rfl, ?_⟩) (by assumption) ?_
        rotate_left
        · (intro w hSw; (try dsimp only at hSw); go_simp; all_goals with_reducible rfl)
        try simp only [Act.put, List.setIfInBounds_toArray, List.set_cons_zero, List.set_cons_succ]
        refine wpAnyH_take (i := 6) (oi := ⟨some 27, _, _, _, _, _⟩) (v := ?_) rfl (by kernel_rfl) (by kernel_rfl) (by kernel_rfl) (fun _ _ _ h => h) (Or.inl ⟨by kernel_rfl, ?_⟩) (by assumption) ?_
        rotate_left
        · (intro w hSw; (try dsimp only at hSw); go_simp; all_goals with_reducible rfl)
        try simp only [Act.put, List.setIfInBounds_toArray, List.set_cons_zero, List.set_cons_succ]
        have hB0 : Below w4.heap.size w4 w4.drew := (Below.refl w4.heap.size w4).drew
        generalize hdr : w4.drew = u0 at *
        clear hdr
        refine wpAnyH_ready (rs := [2, 8, 9]) (by kernel_rfl) (by simp) ?_
        refine AllReadyH.cons rfl (fun K hK => ?_) (AllReadyH.cons rfl (fun K hK => ?_) (AllReadyH.cons rfl (fun K hK => ?_) (AllReadyH.nil)))
        · skip
          go_simp
          refine (HL1.out _).mono ?_
          rintro e u1 ⟨rfl, hb1⟩
          have hB1 : Below w4.heap.size w4 u1 := (hB0).trans (hb1.mono (hB0).size)
          go_wp2_with fail
          refine hK.out _ _ (HS'.out _ (hB1)) (fun hHeld => ?_)
          clear hK K
          try simp only [Act.put, List.setIfInBounds_toArray, List.set_cons_zero, List.set_cons_succ]
          refine wpAnyH_ready (rs := [7, 8, 9]) (by kernel_rfl) (by simp) ?_
          refine AllReadyH.cons rfl (fun K hK => ?_) (AllReadyH.cons rfl (fun K hK => ?_) (AllReadyH.cons rfl (fun K hK => ?_) (AllReadyH.nil)))
          · skip
            go_simp
            refine (HE1.out _).mono ?_
            rintro e u2 ⟨rfl, hb2⟩
            have hB2 : Below w4.heap.size w4 u2 := (hB1).trans (hb2.mono (hB1).size)
            go_wp2_with fail
            refine hK.out _ _ (HS'.out _ (hB2)) (fun hHeld => ?_)
            clear hK K
            try simp only [Act.put, List.setIfInBounds_toArray, List.set_cons_zero, List.set_cons_succ]
            refine wpAnyH_ready (rs := [8, 9]) (by kernel_rfl) (by simp) ?_
            refine AllReadyH.cons rfl (fun K hK => ?_) (AllReadyH.cons rfl (fun K hK => ?_) (AllReadyH.nil))
            · skip
              go_simp
              go_wp2_with fail
              refine hK.out _ _ (HS'.out _ ((hB2).alloc (hB2).size _)) (fun hHeld => ?_)
              clear hK K
              try simp only [Act.put, List.setIfInBounds_toArray, List.set_cons_zero, List.set_cons_succ]
              generalize hq3 : u2.alloc (.cells #[.int .i64 0, .int .i64 0] 106) = u3
              have hb3 : Below u2.heap.size u2 u3 := by rw [← hq3]; exact (Below.refl _ _).alloc (Nat.le_refl _) _
              have hB3 : Below w4.heap.size w4 u3 := (hB2).trans (hb3.mono (hB2).size)
              have h8_3 : (∀ i, i < 2 → ∃ v, u3.cell? ⟨u2.heap.size, i, none⟩ = some v) ∧ (∀ j, u3.frozen? ⟨u2.heap.size, j, none⟩ = false) := by rw [← hq3]; exact new2_is u2 _ _ _
              have q8_3 : u2.heap.size < u3.heap.size := by rw [← hq3]; simp
              have g8 : w4.heap.size ≤ u2.heap.size := (hB2).size
              clear hq3
              refine wpAnyH_ready (rs := [9]) (by kernel_rfl) (by simp) ?_
              refine AllReadyH.cons rfl (fun K hK => ?_) (AllReadyH.nil)
              go_simp
              go_wp2_with fail
              refine hK.out _ _ (HS'.out _ ((hB3).alloc (hB3).size _)) (fun hHeld => ?_)
              clear hK K
              try simp only [Act.put, List.setIfInBounds_toArray, List.set_cons_zero, List.set_cons_succ]
              generalize hq4 : u3.alloc (.cells #[.int .i64 0, .int .i64 0] 57) = u4
              have hb4 : Below u3.heap.size u3 u4 := by rw [← hq4]; exact (Below.refl _ _).alloc (Nat.le_refl _) _
              have hB4 : Below w4.heap.size w4 u4 := (hB3).trans (hb4.mono (hB3).size)
              have h8_4 := has2_below (b := u2.heap.size) h8_3 hb4 q8_3
              have q8_4 : u2.heap.size < u4.heap.size := Nat.lt_of_lt_of_le q8_3 hb4.size
              have h9_4 : (∀ i, i < 2 → ∃ v, u4.cell? ⟨u3.heap.size, i, none⟩ = some v) ∧ (∀ j, u4.frozen? ⟨u3.heap.size, j, none⟩ = false) := by rw [← hq4]; exact new2_is u3 _ _ _
              have q9_4 : u3.heap.size < u4.heap.size := by rw [← hq4]; simp
              have g9 : w4.heap.size ≤ u3.heap.size := (hB3).size
              clear hq4
              obtain ⟨⟨ev0, e0⟩, ⟨ev1, e1⟩⟩ := And.intro (h8_4.1 0 (by omega)) (h8_4.1 1 (by omega))
              have ef := h8_4.2
              refine wpAnyH_ready (rs := [10]) (by kernel_rfl) (by simp) ?_
              refine AllReadyH.cons rfl (fun K hK => ?_) (AllReadyH.nil)
              go_simp
              go_wp2_with fail
              refine hK.out _ _ (HS'.out _ (set2_below hB4 g8)) (fun hHeld => ?_)
              clear hK K
              try simp only [Act.put, List.setIfInBounds_toArray, List.set_cons_zero, List.set_cons_succ]
              have HH := set2_is (X := u4) (b := u2.heap.size) (.int .i64 P) (.int .i64 Q) h8_4.1 h8_4.2
              unfold set2 at HH
              have hBs : Below w4.heap.size w4 (set2 u4 u2.heap.size (.int .i64 P) (.int .i64 Q)) := set2_below hB4 g8
              unfold set2 at hBs
              generalize hs1 : (u4.setCell ⟨u2.heap.size, 0, none⟩ (.int .i64 P)).setCell ⟨u2.heap.size, 1, none⟩ (.int .i64 Q) = x1 at *
              obtain ⟨t0, t1, t5, t6, t7, t8⟩ := HH
              have hnn : u2.heap.size ≠ u3.heap.size := by omega
              have hn2 : u3.heap.size ≠ u2.heap.size := by omega
              have hs13 : (∀ i, i < 2 → ∃ v, x1.cell? ⟨u3.heap.size, i, none⟩ = some v) ∧ (∀ j, x1.frozen? ⟨u3.heap.size, j, none⟩ = false) := ⟨fun i hi => by obtain ⟨v, hv⟩ := h9_4.1 i hi; exact ⟨v, (t6 _ _ hn2).trans hv⟩, fun j => (World.frozen?_of_block (a := ⟨u3.heap.size, j, none⟩) (t7 _ hn2)).trans (h9_4.2 j)⟩
              obtain ⟨⟨av0, a0⟩, ⟨av1, a1⟩⟩ := And.intro (hs13.1 0 (by omega)) (hs13.1 1 (by omega))
              have af := hs13.2
              have k12 : u2.heap.size < x1.heap.size := by rw [t8]; exact q8_4
              have k13 : u3.heap.size < x1.heap.size := by rw [t8]; exact q9_4
              have T0 := Lib.hid t0
              have T1 := Lib.hid t1
              clear t0 t1 t5 t6 t7 t8 hs1 e0 e1 ef
              refine wpAnyH_ready (rs := [11]) (by kernel_rfl) (by simp) ?_
              refine AllReadyH.cons rfl (fun K hK => ?_) (AllReadyH.nil)
              go_simp
              go_wp2_with fail
              refine hK.out _ _ (HS'.out _ (set2_below hBs g9)) (fun hHeld => ?_)
              clear hK K
              try simp only [Act.put, List.setIfInBounds_toArray, List.set_cons_zero, List.set_cons_succ]
              refine wpAnyH_done (by kernel_rfl) ?_ _
              go_wp2_with fail
              go_meet
              exact ⟨rfl, R8.of hBs g8 k12 g9 k13 hnn T0.out T1.out hs13⟩
            · skip
              go_simp
              go_wp2_with fail
              refine hK.out _ _ (HS'.out _ ((hB2).alloc (hB2).size _)) (fun hHeld => ?_)
              clear hK K
              try simp only [Act.put, List.setIfInBounds_toArray, List.set_cons_zero, List.set_cons_succ]
              generalize hq3 : u2.alloc (.cells #[.int .i64 0, .int .i64 0] 57) = u3
              have hb3 : Below u2.heap.size u2 u3 := by rw [← hq3]; exact (Below.refl _ _).alloc (Nat.le_refl _) _
              have hB3 : Below w4.heap.size w4 u3 := (hB2).trans (hb3.mono (hB2).size)
              have h9_3 : (∀ i, i < 2 → ∃ v, u3.cell? ⟨u2.heap.size, i, none⟩ = some v) ∧ (∀ j, u3.frozen? ⟨u2.heap.size, j, none⟩ = false) := by rw [← hq3]; exact new2_is u2 _ _ _
              have q9_3 : u2.heap.size < u3.heap.size := by rw [← hq3]; simp
              have g9 : w4.heap.size ≤ u2.heap.size := (hB2).size
              clear hq3
              refine wpAnyH_ready (rs := [8]) (by kernel_rfl) (by simp) ?_
              refine AllReadyH.cons rfl (fun K hK => ?_) (AllReadyH.nil)
              go_simp
              go_wp2_with fail
              refine hK.out _ _ (HS'.out _ ((hB3).alloc (hB3).size _)) (fun hHeld => ?_)
              clear hK K
              try simp only [Act.put, List.setIfInBounds_toArray, List.set_cons_zero, List.set_cons_succ]
              generalize hq4 : u3.alloc (.cells #[.int .i64 0, .int .i64 0] 106) = u4
              have hb4 : Below u3.heap.size u3 u4 := by rw [← hq4]; exact (Below.refl _ _).alloc (Nat.le_refl _) _
              have hB4 : Below w4.heap.size w4 u4 := (hB3).trans (hb4.mono (hB3).size)
              have h9_4 := has2_below (b := u2.heap.size) h9_3 hb4 q9_3
              have q9_4 : u2.heap.size < u4.heap.size := Nat.lt_of_lt_of_le q9_3 hb4.size
              have h8_4 : (∀ i, i < 2 → ∃ v, u4.cell? ⟨u3.heap.size, i, none⟩ = some v) ∧ (∀ j, u4.frozen? ⟨u3.heap.size, j, none⟩ = false) := by rw [← hq4]; exact new2_is u3 _ _ _
              have q8_4 : u3.heap.size < u4.heap.size := by rw [← hq4]; simp
              have g8 : w4.heap.size ≤ u3.heap.size := (hB3).size
              clear hq4
              obtain ⟨⟨ev0, e0⟩, ⟨ev1, e1⟩⟩ := And.intro (h8_4.1 0 (by omega)) (h8_4.1 1 (by omega))
              have ef := h8_4.2
              refine wpAnyH_ready (rs := [10]) (by kernel_rfl) (by simp) ?_
              refine AllReadyH.cons rfl (fun K hK => ?_) (AllReadyH.nil)
              go_simp
              go_wp2_with fail
              refine hK.out _ _ (HS'.out _ (set2_below hB4 g8)) (fun hHeld => ?_)
              clear hK K
              try simp only [Act.put, List.setIfInBounds_toArray, List.set_cons_zero, List.set_cons_succ]
              have HH := set2_is (X := u4) (b := u3.heap.size) (.int .i64 P) (.int .i64 Q) h8_4.1 h8_4.2
              unfold set2 at HH
              have hBs : Below w4.heap.size w4 (set2 u4 u3.heap.size (.int .i64 P) (.int .i64 Q)) := set2_below hB4 g8
              unfold set2 at hBs
              generalize hs1 : (u4.setCell ⟨u3.heap.size, 0, none⟩ (.int .i64 P)).setCell ⟨u3.heap.size, 1, none⟩ (.int .i64 Q) = x1 at *
              obtain ⟨t0, t1, t5, t6, t7, t8⟩ := HH
              have hnn : u3.heap.size ≠ u2.heap.size := by omega
              have hn2 : u2.heap.size ≠ u3.heap.size := by omega
              have hs13 : (∀ i, i < 2 → ∃ v, x1.cell? ⟨u2.heap.size, i, none⟩ = some v) ∧ (∀ j, x1.frozen? ⟨u2.heap.size, j, none⟩ = false) := ⟨fun i hi => by obtain ⟨v, hv⟩ := h9_4.1 i hi; exact ⟨v, (t6 _ _ hn2).trans hv⟩, fun j => (World.frozen?_of_block (a := ⟨u2.heap.size, j, none⟩) (t7 _ hn2)).trans (h9_4.2 j)⟩
              obtain ⟨⟨av0, a0⟩, ⟨av1, a1⟩⟩ := And.intro (hs13.1 0 (by omega)) (hs13.1 1 (by omega))
              have af := hs13.2
              have k12 : u3.heap.size < x1.heap.size := by rw [t8]; exact q8_4
              have k13 : u2.heap.size < x1.heap.size := by rw [t8]; exact q9_4
              have T0 := Lib.hid t0
              have T1 := Lib.hid t1
              clear t0 t1 t5 t6 t7 t8 hs1 e0 e1 ef
              refine wpAnyH_ready (rs := [11]) (by kernel_rfl) (by simp) ?_
              refine AllReadyH.cons rfl (fun K hK => ?_) (AllReadyH.nil)
              go_simp
              go_wp2_with fail
              refine hK.out _ _ (HS'.out _ (set2_below hBs g9)) (fun hHeld => ?_)
              clear hK K
              try simp only [Act.put, List.setIfInBounds_toArray, List.set_cons_zero, List.set_cons_succ]
              refine wpAnyH_done (by kernel_rfl) ?_ _
              go_wp2_with fail
              go_meet
              exact ⟨rfl, R8.of hBs g8 k12 g9 k13 hnn T0.out T1.out hs13⟩
          · skip
            go_simp
            go_wp2_with fail
            refine hK.out _ _ (HS'.out _ ((hB1).alloc (hB1).size _)) (fun hHeld => ?_)
            clear hK K
            try simp only [Act.put, List.setIfInBounds_toArray, List.set_cons_zero, List.set_cons_succ]
            generalize hq2 : u1.alloc (.cells #[.int .i64 0, .int .i64 0] 106) = u2
            have hb2 : Below u1.heap.size u1 u2 := by rw [← hq2]; exact (Below.refl _ _).alloc (Nat.le_refl _) _
            have hB2 : Below w4.heap.size w4 u2 := (hB1).trans (hb2.mono (hB1).size)
            have h8_2 : (∀ i, i < 2 → ∃ v, u2.cell? ⟨u1.heap.size, i, none⟩ = some v) ∧ (∀ j, u2.frozen? ⟨u1.heap.size, j, none⟩ = false) := by rw [← hq2]; exact new2_is u1 _ _ _
            have q8_2 : u1.heap.size < u2.heap.size := by rw [← hq2]; simp
            have g8 : w4.heap.size ≤ u1.heap.size := (hB1).size
            clear hq2
            refine wpAnyH_ready (rs := [7, 9]) (by kernel_rfl) (by simp) ?_
            refine AllReadyH.cons rfl (fun K hK => ?_) (AllReadyH.cons rfl (fun K hK => ?_) (AllReadyH.nil))
            · skip
              go_simp
              refine (HE1.out _).mono ?_
              rintro e u3 ⟨rfl, hb3⟩
              have hB3 : Below w4.heap.size w4 u3 := (hB2).trans (hb3.mono (hB2).size)
              have h8_3 := has2_below (b := u1.heap.size) h8_2 hb3 q8_2
              have q8_3 : u1.heap.size < u3.heap.size := Nat.lt_of_lt_of_le q8_2 hb3.size
              go_wp2_with fail
              refine hK.out _ _ (HS'.out _ (hB3)) (fun hHeld => ?_)
              clear hK K
              try simp only [Act.put, List.setIfInBounds_toArray, List.set_cons_zero, List.set_cons_succ]
              refine wpAnyH_ready (rs := [9]) (by kernel_rfl) (by simp) ?_
              refine AllReadyH.cons rfl (fun K hK => ?_) (AllReadyH.nil)
              go_simp
              go_wp2_with fail
              refine hK.out _ _ (HS'.out _ ((hB3).alloc (hB3).size _)) (fun hHeld => ?_)
              clear hK K
              try simp only [Act.put, List.setIfInBounds_toArray, List.set_cons_zero, List.set_cons_succ]
              generalize hq4 : u3.alloc (.cells #[.int .i64 0, .int .i64 0] 57) = u4
              have hb4 : Below u3.heap.size u3 u4 := by rw [← hq4]; exact (Below.refl _ _).alloc (Nat.le_refl _) _
              have hB4 : Below w4.heap.size w4 u4 := (hB3).trans (hb4.mono (hB3).size)
              have h8_4 := has2_below (b := u1.heap.size) h8_3 hb4 q8_3
              have q8_4 : u1.heap.size < u4.heap.size := Nat.lt_of_lt_of_le q8_3 hb4.size
              have h9_4 : (∀ i, i < 2 → ∃ v, u4.cell? ⟨u3.heap.size, i, none⟩ = some v) ∧ (∀ j, u4.frozen? ⟨u3.heap.size, j, none⟩ = false) := by rw [← hq4]; exact new2_is u3 _ _ _
              have q9_4 : u3.heap.size < u4.heap.size := by rw [← hq4]; simp
              have g9 : w4.heap.size ≤ u3.heap.size := (hB3).size
              clear hq4
              obtain ⟨⟨ev0, e0⟩, ⟨ev1, e1⟩⟩ := And.intro (h8_4.1 0 (by omega)) (h8_4.1 1 (by omega))
              have ef := h8_4.2
              refine wpAnyH_ready (rs := [10]) (by kernel_rfl) (by simp) ?_
              refine AllReadyH.cons rfl (fun K hK => ?_) (AllReadyH.nil)
              go_simp
              go_wp2_with fail
              refine hK.out _ _ (HS'.out _ (set2_below hB4 g8)) (fun hHeld => ?_)
              clear hK K
              try simp only [Act.put, List.setIfInBounds_toArray, List.set_cons_zero, List.set_cons_succ]
              have HH := set2_is (X := u4) (b := u1.heap.size) (.int .i64 P) (.int .i64 Q) h8_4.1 h8_4.2
              unfold set2 at HH
              have hBs : Below w4.heap.size w4 (set2 u4 u1.heap.size (.int .i64 P) (.int .i64 Q)) := set2_below hB4 g8
              unfold set2 at hBs
              generalize hs1 : (u4.setCell ⟨u1.heap.size, 0, none⟩ (.int .i64 P)).setCell ⟨u1.heap.size, 1, none⟩ (.int .i64 Q) = x1 at *
              obtain ⟨t0, t1, t5, t6, t7, t8⟩ := HH
              have hnn : u1.heap.size ≠ u3.heap.size := by omega
              have hn2 : u3.heap.size ≠ u1.heap.size := by omega
              have hs13 : (∀ i, i < 2 → ∃ v, x1.cell? ⟨u3.heap.size, i, none⟩ = some v) ∧ (∀ j, x1.frozen? ⟨u3.heap.size, j, none⟩ = false) := ⟨fun i hi => by obtain ⟨v, hv⟩ := h9_4.1 i hi; exact ⟨v, (t6 _ _ hn2).trans hv⟩, fun j => (World.frozen?_of_block (a := ⟨u3.heap.size, j, none⟩) (t7 _ hn2)).trans (h9_4.2 j)⟩
              obtain ⟨⟨av0, a0⟩, ⟨av1, a1⟩⟩ := And.intro (hs13.1 0 (by omega)) (hs13.1 1 (by omega))
              have af := hs13.2
              have k12 : u1.heap.size < x1.heap.size := by rw [t8]; exact q8_4
              have k13 : u3.heap.size < x1.heap.size := by rw [t8]; exact q9_4
              have T0 := Lib.hid t0
              have T1 := Lib.hid t1
              clear t0 t1 t5 t6 t7 t8 hs1 e0 e1 ef
              refine wpAnyH_ready (rs := [11]) (by kernel_rfl) (by simp) ?_
              refine AllReadyH.cons rfl (fun K hK => ?_) (AllReadyH.nil)
              go_simp
              go_wp2_with fail
              refine hK.out _ _ (HS'.out _ (set2_below hBs g9)) (fun hHeld => ?_)
              clear hK K
              try simp only [Act.put, List.setIfInBounds_toArray, List.set_cons_zero, List.set_cons_succ]
              refine wpAnyH_done (by kernel_rfl) ?_ _
              go_wp2_with fail
              go_meet
              exact ⟨rfl, R8.of hBs g8 k12 g9 k13 hnn T0.out T1.out hs13⟩
            · skip
              go_simp
              go_wp2_with fail
              refine hK.out _ _ (HS'.out _ ((hB2).alloc (hB2).size _)) (fun hHeld => ?_)
              clear hK K
              try simp only [Act.put, List.setIfInBounds_toArray, List.set_cons_zero, List.set_cons_succ]
              generalize hq3 : u2.alloc (.cells #[.int .i64 0, .int .i64 0] 57) = u3
              have hb3 : Below u2.heap.size u2 u3 := by rw [← hq3]; exact (Below.refl _ _).alloc (Nat.le_refl _) _
              have hB3 : Below w4.heap.size w4 u3 := (hB2).trans (hb3.mono (hB2).size)
              have h8_3 := has2_below (b := u1.heap.size) h8_2 hb3 q8_2
              have q8_3 : u1.heap.size < u3.heap.size := Nat.lt_of_lt_of_le q8_2 hb3.size
              have h9_3 : (∀ i, i < 2 → ∃ v, u3.cell? ⟨u2.heap.size, i, none⟩ = some v) ∧ (∀ j, u3.frozen? ⟨u2.heap.size, j, none⟩ = false) := by rw [← hq3]; exact new2_is u2 _ _ _
              have q9_3 : u2.heap.size < u3.heap.size := by rw [← hq3]; simp
              have g9 : w4.heap.size ≤ u2.heap.size := (hB2).size
              clear hq3
              refine wpAnyH_ready (rs := [7]) (by kernel_rfl) (by simp) ?_
              refine AllReadyH.cons rfl (fun K hK => ?_) (AllReadyH.nil)
              go_simp
              refine (HE1.out _).mono ?_
              rintro e u4 ⟨rfl, hb4⟩
              have hB4 : Below w4.heap.size w4 u4 := (hB3).trans (hb4.mono (hB3).size)
              have h8_4 := has2_below (b := u1.heap.size) h8_3 hb4 q8_3
              have q8_4 : u1.heap.size < u4.heap.size := Nat.lt_of_lt_of_le q8_3 hb4.size
              have h9_4 := has2_below (b := u2.heap.size) h9_3 hb4 q9_3
              have q9_4 : u2.heap.size < u4.heap.size := Nat.lt_of_lt_of_le q9_3 hb4.size
              go_wp2_with fail
              refine hK.out _ _ (HS'.out _ (hB4)) (fun hHeld => ?_)
              clear hK K
              try simp only [Act.put, List.setIfInBounds_toArray, List.set_cons_zero, List.set_cons_succ]
              obtain ⟨⟨ev0, e0⟩, ⟨ev1, e1⟩⟩ := And.intro (h8_4.1 0 (by omega)) (h8_4.1 1 (by omega))
              have ef := h8_4.2
              refine wpAnyH_ready (rs := [10]) (by kernel_rfl) (by simp) ?_
              refine AllReadyH.cons rfl (fun K hK => ?_) (AllReadyH.nil)
              go_simp
              go_wp2_with fail
              refine hK.out _ _ (HS'.out _ (set2_below hB4 g8)) (fun hHeld => ?_)
              clear hK K
              try simp only [Act.put, List.setIfInBounds_toArray, List.set_cons_zero, List.set_cons_succ]
              have HH := set2_is (X := u4) (b := u1.heap.size) (.int .i64 P) (.int .i64 Q) h8_4.1 h8_4.2
              unfold set2 at HH
              have hBs : Below w4.heap.size w4 (set2 u4 u1.heap.size (.int .i64 P) (.int .i64 Q)) := set2_below hB4 g8
              unfold set2 at hBs
              generalize hs1 : (u4.setCell ⟨u1.heap.size, 0, none⟩ (.int .i64 P)).setCell ⟨u1.heap.size, 1, none⟩ (.int .i64 Q) = x1 at *
              obtain ⟨t0, t1, t5, t6, t7, t8⟩ := HH
              have hnn : u1.heap.size ≠ u2.heap.size := by omega
              have hn2 : u2.heap.size ≠ u1.heap.size := by omega
              have hs13 : (∀ i, i < 2 → ∃ v, x1.cell? ⟨u2.heap.size, i, none⟩ = some v) ∧ (∀ j, x1.frozen? ⟨u2.heap.size, j, none⟩ = false) := ⟨fun i hi => by obtain ⟨v, hv⟩ := h9_4.1 i hi; exact ⟨v, (t6 _ _ hn2).trans hv⟩, fun j => (World.frozen?_of_block (a := ⟨u2.heap.size, j, none⟩) (t7 _ hn2)).trans (h9_4.2 j)⟩
              obtain ⟨⟨av0, a0⟩, ⟨av1, a1⟩⟩ := And.intro (hs13.1 0 (by omega)) (hs13.1 1 (by omega))
              have af := hs13.2
              have k12 : u1.heap.size < x1.heap.size := by rw [t8]; exact q8_4
              have k13 : u2.heap.size < x1.heap.size := by rw [t8]; exact q9_4
              have T0 := Lib.hid t0
              have T1 := Lib.hid t1
              clear t0 t1 t5 t6 t7 t8 hs1 e0 e1 ef
              refine wpAnyH_ready (rs := [11]) (by kernel_rfl) (by simp) ?_
              refine AllReadyH.cons rfl (fun K hK => ?_) (AllReadyH.nil)
              go_simp
              go_wp2_with fail
              refine hK.out _ _ (HS'.out _ (set2_below hBs g9)) (fun hHeld => ?_)
              clear hK K
              try simp only [Act.put, List.setIfInBounds_toArray, List.set_cons_zero, List.set_cons_succ]
              refine wpAnyH_done (by kernel_rfl) ?_ _
              go_wp2_with fail
              go_meet
              exact ⟨rfl, R8.of hBs g8 k12 g9 k13 hnn T0.out T1.out hs13⟩
          · skip
            go_simp
            go_wp2_with fail
            refine hK.out _ _ (HS'.out _ ((hB1).alloc (hB1).size _)) (fun hHeld => ?_)
            clear hK K
            try simp only [Act.put, List.setIfInBounds_toArray, List.set_cons_zero, List.set_cons_succ]
            generalize hq2 : u1.alloc (.cells #[.int .i64 0, .int .i64 0] 57) = u2
            have hb2 : Below u1.heap.size u1 u2 := by rw [← hq2]; exact (Below.refl _ _).alloc (Nat.le_refl _) _
            have hB2 : Below w4.heap.size w4 u2 := (hB1).trans (hb2.mono (hB1).size)
            have h9_2 : (∀ i, i < 2 → ∃ v, u2.cell? ⟨u1.heap.size, i, none⟩ = some v) ∧ (∀ j, u2.frozen? ⟨u1.heap.size, j, none⟩ = false) := by rw [← hq2]; exact new2_is u1 _ _ _
            have q9_2 : u1.heap.size < u2.heap.size := by rw [← hq2]; simp
            have g9 : w4.heap.size ≤ u1.heap.size := (hB1).size
            clear hq2
            refine wpAnyH_ready (rs := [7, 8]) (by kernel_rfl) (by simp) ?_
            refine AllReadyH.cons rfl (fun K hK => ?_) (AllReadyH.cons rfl (fun K hK => ?_) (AllReadyH.nil))
            · skip
              go_simp
              refine (HE1.out _).mono ?_
              rintro e u3 ⟨rfl, hb3⟩
              have hB3 : Below w4.heap.size w4 u3 := (hB2).trans (hb3.mono (hB2).size)
              have h9_3 := has2_below (b := u1.heap.size) h9_2 hb3 q9_2
              have q9_3 : u1.heap.size < u3.heap.size := Nat.lt_of_lt_of_le q9_2 hb3.size
              go_wp2_with fail
              refine hK.out _ _ (HS'.out _ (hB3)) (fun hHeld => ?_)
              clear hK K
              try simp only [Act.put, List.setIfInBounds_toArray, List.set_cons_zero, List.set_cons_succ]
              refine wpAnyH_ready (rs := [8]) (by kernel_rfl) (by simp) ?_
              refine AllReadyH.cons rfl (fun K hK => ?_) (AllReadyH.nil)
              go_simp
              go_wp2_with fail
              refine hK.out _ _ (HS'.out _ ((hB3).alloc (hB3).size _)) (fun hHeld => ?_)
              clear hK K
              try simp only [Act.put, List.setIfInBounds_toArray, List.set_cons_zero, List.set_cons_succ]
              generalize hq4 : u3.alloc (.cells #[.int .i64 0, .int .i64 0] 106) = u4
              have hb4 : Below u3.heap.size u3 u4 := by rw [← hq4]; exact (Below.refl _ _).alloc (Nat.le_refl _) _
              have hB4 : Below w4.heap.size w4 u4 := (hB3).trans (hb4.mono (hB3).size)
              have h9_4 := has2_below (b := u1.heap.size) h9_3 hb4 q9_3
              have q9_4 : u1.heap.size < u4.heap.size := Nat.lt_of_lt_of_le q9_3 hb4.size
              have h8_4 : (∀ i, i < 2 → ∃ v, u4.cell? ⟨u3.heap.size, i, none⟩ = some v) ∧ (∀ j, u4.frozen? ⟨u3.heap.size, j, none⟩ = false) := by rw [← hq4]; exact new2_is u3 _ _ _
              have q8_4 : u3.heap.size < u4.heap.size := by rw [← hq4]; simp
              have g8 : w4.heap.size ≤ u3.heap.size := (hB3).size
              clear hq4
              obtain ⟨⟨ev0, e0⟩, ⟨ev1, e1⟩⟩ := And.intro (h8_4.1 0 (by omega)) (h8_4.1 1 (by omega))
              have ef := h8_4.2
              refine wpAnyH_ready (rs := [10]) (by kernel_rfl) (by simp) ?_
              refine AllReadyH.cons rfl (fun K hK => ?_) (AllReadyH.nil)
              go_simp
              go_wp2_with fail
              refine hK.out _ _ (HS'.out _ (set2_below hB4 g8)) (fun hHeld => ?_)
              clear hK K
              try simp only [Act.put, List.setIfInBounds_toArray, List.set_cons_zero, List.set_cons_succ]
              have HH := set2_is (X := u4) (b := u3.heap.size) (.int .i64 P) (.int .i64 Q) h8_4.1 h8_4.2
              unfold set2 at HH
              have hBs : Below w4.heap.size w4 (set2 u4 u3.heap.size (.int .i64 P) (.int .i64 Q)) := set2_below hB4 g8
              unfold set2 at hBs
              generalize hs1 : (u4.setCell ⟨u3.heap.size, 0, none⟩ (.int .i64 P)).setCell ⟨u3.heap.size, 1, none⟩ (.int .i64 Q) = x1 at *
              obtain ⟨t0, t1, t5, t6, t7, t8⟩ := HH
              have hnn : u3.heap.size ≠ u1.heap.size := by omega
              have hn2 : u1.heap.size ≠ u3.heap.size := by omega
              have hs13 : (∀ i, i < 2 → ∃ v, x1.cell? ⟨u1.heap.size, i, none⟩ = some v) ∧ (∀ j, x1.frozen? ⟨u1.heap.size, j, none⟩ = false) := ⟨fun i hi => by obtain ⟨v, hv⟩ := h9_4.1 i hi; exact ⟨v, (t6 _ _ hn2).trans hv⟩, fun j => (World.frozen?_of_block (a := ⟨u1.heap.size, j, none⟩) (t7 _ hn2)).trans (h9_4.2 j)⟩
              obtain ⟨⟨av0, a0⟩, ⟨av1, a1⟩⟩ := And.intro (hs13.1 0 (by omega)) (hs13.1 1 (by omega))
              have af := hs13.2
              have k12 : u3.heap.size < x1.heap.size := by rw [t8]; exact q8_4
              have k13 : u1.heap.size < x1.heap.size := by rw [t8]; exact q9_4
              have T0 := Lib.hid t0
              have T1 := Lib.hid t1
              clear t0 t1 t5 t6 t7 t8 hs1 e0 e1 ef
              refine wpAnyH_ready (rs := [11]) (by kernel_rfl) (by simp) ?_
              refine AllReadyH.cons rfl (fun K hK => ?_) (AllReadyH.nil)
              go_simp
              go_wp2_with fail
              refine hK.out _ _ (HS'.out _ (set2_below hBs g9)) (fun hHeld => ?_)
              clear hK K
              try simp only [Act.put, List.setIfInBounds_toArray, List.set_cons_zero, List.set_cons_succ]
              refine wpAnyH_done (by kernel_rfl) ?_ _
              go_wp2_with fail
              go_meet
              exact ⟨rfl, R8.of hBs g8 k12 g9 k13 hnn T0.out T1.out hs13⟩
            · skip
              go_simp
              go_wp2_with fail
              refine hK.out _ _ (HS'.out _ ((hB2).alloc (hB2).size _)) (fun hHeld => ?_)
              clear hK K
              try simp only [Act.put, List.setIfInBounds_toArray, List.set_cons_zero, List.set_cons_succ]
              generalize hq3 : u2.alloc (.cells #[.int .i64 0, .int .i64 0] 106) = u3
              have hb3 : Below u2.heap.size u2 u3 := by rw [← hq3]; exact (Below.refl _ _).alloc (Nat.le_refl _) _
              have hB3 : Below w4.heap.size w4 u3 := (hB2).trans (hb3.mono (hB2).size)
              have h9_3 := has2_below (b := u1.heap.size) h9_2 hb3 q9_2
              have q9_3 : u1.heap.size < u3.heap.size := Nat.lt_of_lt_of_le q9_2 hb3.size
              have h8_3 : (∀ i, i < 2 → ∃ v, u3.cell? ⟨u2.heap.size, i, none⟩ = some v) ∧ (∀ j, u3.frozen? ⟨u2.heap.size, j, none⟩ = false) := by rw [← hq3]; exact new2_is u2 _ _ _
              have q8_3 : u2.heap.size < u3.heap.size := by rw [← hq3]; simp
              have g8 : w4.heap.size ≤ u2.heap.size := (hB2).size
              clear hq3
              refine wpAnyH_ready (rs := [7]) (by kernel_rfl) (by simp) ?_
              refine AllReadyH.cons rfl (fun K hK => ?_) (AllReadyH.nil)
              go_simp
              refine (HE1.out _).mono ?_
              rintro e u4 ⟨rfl, hb4⟩
              have hB4 : Below w4.heap.size w4 u4 := (hB3).trans (hb4.mono (hB3).size)
              have h9_4 := has2_below (b := u1.heap.size) h9_3 hb4 q9_3
              have q9_4 : u1.heap.size < u4.heap.size := Nat.lt_of_lt_of_le q9_3 hb4.size
              have h8_4 := has2_below (b := u2.heap.size) h8_3 hb4 q8_3
              have q8_4 : u2.heap.size < u4.heap.size := Nat.lt_of_lt_of_le q8_3 hb4.size
              go_wp2_with fail
              refine hK.out _ _ (HS'.out _ (hB4)) (fun hHeld => ?_)
              clear hK K
              try simp only [Act.put, List.setIfInBounds_toArray, List.set_cons_zero, List.set_cons_succ]
              obtain ⟨⟨ev0, e0⟩, ⟨ev1, e1⟩⟩ := And.intro (h8_4.1 0 (by omega)) (h8_4.1 1 (by omega))
              have ef := h8_4.2
              refine wpAnyH_ready (rs := [10]) (by kernel_rfl) (by simp) ?_
              refine AllReadyH.cons rfl (fun K hK => ?_) (AllReadyH.nil)
              go_simp
              go_wp2_with fail
              refine hK.out _ _ (HS'.out _ (set2_below hB4 g8)) (fun hHeld => ?_)
              clear hK K
              try simp only [Act.put, List.setIfInBounds_toArray, List.set_cons_zero, List.set_cons_succ]
              have HH := set2_is (X := u4) (b := u2.heap.size) (.int .i64 P) (.int .i64 Q) h8_4.1 h8_4.2
              unfold set2 at HH
              have hBs : Below w4.heap.size w4 (set2 u4 u2.heap.size (.int .i64 P) (.int .i64 Q)) := set2_below hB4 g8
              unfold set2 at hBs
              generalize hs1 : (u4.setCell ⟨u2.heap.size, 0, none⟩ (.int .i64 P)).setCell ⟨u2.heap.size, 1, none⟩ (.int .i64 Q) = x1 at *
              obtain ⟨t0, t1, t5, t6, t7, t8⟩ := HH
              have hnn : u2.heap.size ≠ u1.heap.size := by omega
              have hn2 : u1.heap.size ≠ u2.heap.size := by omega
              have hs13 : (∀ i, i < 2 → ∃ v, x1.cell? ⟨u1.heap.size, i, none⟩ = some v) ∧ (∀ j, x1.frozen? ⟨u1.heap.size, j, none⟩ = false) := ⟨fun i hi => by obtain ⟨v, hv⟩ := h9_4.1 i hi; exact ⟨v, (t6 _ _ hn2).trans hv⟩, fun j => (World.frozen?_of_block (a := ⟨u1.heap.size, j, none⟩) (t7 _ hn2)).trans (h9_4.2 j)⟩
              obtain ⟨⟨av0, a0⟩, ⟨av1, a1⟩⟩ := And.intro (hs13.1 0 (by omega)) (hs13.1 1 (by omega))
              have af := hs13.2
              have k12 : u2.heap.size < x1.heap.size := by rw [t8]; exact q8_4
              have k13 : u1.heap.size < x1.heap.size := by rw [t8]; exact q9_4
              have T0 := Lib.hid t0
              have T1 := Lib.hid t1
              clear t0 t1 t5 t6 t7 t8 hs1 e0 e1 ef
              refine wpAnyH_ready (rs := [11]) (by kernel_rfl) (by simp) ?_
              refine AllReadyH.cons rfl (fun K hK => ?_) (AllReadyH.nil)
              go_simp
              go_wp2_with fail
              refine hK.out _ _ (HS'.out _ (set2_below hBs g9)) (fun hHeld => ?_)
              clear hK K
              try simp only [Act.put, List.setIfInBounds_toArray, List.set_cons_zero, List.set_cons_succ]
              refine wpAnyH_done (by kernel_rfl) ?_ _
              go_wp2_with fail
              go_meet
              exact ⟨rfl, R8.of hBs g8 k12 g9 k13 hnn T0.out T1.out hs13⟩
        · skip
          go_simp
          go_wp2_with fail
          refine hK.out _ _ (HS'.out _ ((hB0).alloc (hB0).size _)) (fun hHeld => ?_)
          clear hK K
          try simp only [Act.put, List.setIfInBounds_toArray, List.set_cons_zero, List.set_cons_succ]
          generalize hq1 : u0.alloc (.cells #[.int .i64 0, .int .i64 0] 106) = u1
          have hb1 : Below u0.heap.size u0 u1 := by rw [← hq1]; exact (Below.refl _ _).alloc (Nat.le_refl _) _
          have hB1 : Below w4.heap.size w4 u1 := (hB0).trans (hb1.mono (hB0).size)
          have h8_1 : (∀ i, i < 2 → ∃ v, u1.cell? ⟨u0.heap.size, i, none⟩ = some v) ∧ (∀ j, u1.frozen? ⟨u0.heap.size, j, none⟩ = false) := by rw [← hq1]; exact new2_is u0 _ _ _
          have q8_1 : u0.heap.size < u1.heap.size := by rw [← hq1]; simp
          have g8 : w4.heap.size ≤ u0.heap.size := (hB0).size
          clear hq1
          refine wpAnyH_ready (rs := [2, 9]) (by kernel_rfl) (by simp) ?_
          refine AllReadyH.cons rfl (fun K hK => ?_) (AllReadyH.cons rfl (fun K hK => ?_) (AllReadyH.nil))
          · skip
            go_simp
            refine (HL1.out _).mono ?_
            rintro e u2 ⟨rfl, hb2⟩
            have hB2 : Below w4.heap.size w4 u2 := (hB1).trans (hb2.mono (hB1).size)
            have h8_2 := has2_below (b := u0.heap.size) h8_1 hb2 q8_1
            have q8_2 : u0.heap.size < u2.heap.size := Nat.lt_of_lt_of_le q8_1 hb2.size
            go_wp2_with fail
            refine hK.out _ _ (HS'.out _ (hB2)) (fun hHeld => ?_)
            clear hK K
            try simp only [Act.put, List.setIfInBounds_toArray, List.set_cons_zero, List.set_cons_succ]
            refine wpAnyH_ready (rs := [7, 9]) (by kernel_rfl) (by simp) ?_
            refine AllReadyH.cons rfl (fun K hK => ?_) (AllReadyH.cons rfl (fun K hK => ?_) (AllReadyH.nil))
            · skip
              go_simp
              refine (HE1.out _).mono ?_
              rintro e u3 ⟨rfl, hb3⟩
              have hB3 : Below w4.heap.size w4 u3 := (hB2).trans (hb3.mono (hB2).size)
              have h8_3 := has2_below (b := u0.heap.size) h8_2 hb3 q8_2
              have q8_3 : u0.heap.size < u3.heap.size := Nat.lt_of_lt_of_le q8_2 hb3.size
              go_wp2_with fail
              refine hK.out _ _ (HS'.out _ (hB3)) (fun hHeld => ?_)
              clear hK K
              try simp only [Act.put, List.setIfInBounds_toArray, List.set_cons_zero, List.set_cons_succ]
              refine wpAnyH_ready (rs := [9]) (by kernel_rfl) (by simp) ?_
              refine AllReadyH.cons rfl (fun K hK => ?_) (AllReadyH.nil)
              go_simp
              go_wp2_with fail
              refine hK.out _ _ (HS'.out _ ((hB3).alloc (hB3).size _)) (fun hHeld => ?_)
              clear hK K
              try simp only [Act.put, List.setIfInBounds_toArray, List.set_cons_zero, List.set_cons_succ]
              generalize hq4 : u3.alloc (.cells #[.int .i64 0, .int .i64 0] 57) = u4
              have hb4 : Below u3.heap.size u3 u4 := by rw [← hq4]; exact (Below.refl _ _).alloc (Nat.le_refl _) _
              have hB4 : Below w4.heap.size w4 u4 := (hB3).trans (hb4.mono (hB3).size)
              have h8_4 := has2_below (b := u0.heap.size) h8_3 hb4 q8_3
              have q8_4 : u0.heap.size < u4.heap.size := Nat.lt_of_lt_of_le q8_3 hb4.size
              have h9_4 : (∀ i, i < 2 → ∃ v, u4.cell? ⟨u3.heap.size, i, none⟩ = some v) ∧ (∀ j, u4.frozen? ⟨u3.heap.size, j, none⟩ = false) := by rw [← hq4]; exact new2_is u3 _ _ _
              have q9_4 : u3.heap.size < u4.heap.size := by rw [← hq4]; simp
              have g9 : w4.heap.size ≤ u3.heap.size := (hB3).size
              clear hq4
              obtain ⟨⟨ev0, e0⟩, ⟨ev1, e1⟩⟩ := And.intro (h8_4.1 0 (by omega)) (h8_4.1 1 (by omega))
              have ef := h8_4.2
              refine wpAnyH_ready (rs := [10]) (by kernel_rfl) (by simp) ?_
              refine AllReadyH.cons rfl (fun K hK => ?_) (AllReadyH.nil)
              go_simp
              go_wp2_with fail
              refine hK.out _ _ (HS'.out _ (set2_below hB4 g8)) (fun hHeld => ?_)
              clear hK K
              try simp only [Act.put, List.setIfInBounds_toArray, List.set_cons_zero, List.set_cons_succ]
              have HH := set2_is (X := u4) (b := u0.heap.size) (.int .i64 P) (.int .i64 Q) h8_4.1 h8_4.2
              unfold set2 at HH
              have hBs : Below w4.heap.size w4 (set2 u4 u0.heap.size (.int .i64 P) (.int .i64 Q)) := set2_below hB4 g8
              unfold set2 at hBs
              generalize hs1 : (u4.setCell ⟨u0.heap.size, 0, none⟩ (.int .i64 P)).setCell ⟨u0.heap.size, 1, none⟩ (.int .i64 Q) = x1 at *
              obtain ⟨t0, t1, t5, t6, t7, t8⟩ := HH
              have hnn : u0.heap.size ≠ u3.heap.size := by omega
              have hn2 : u3.heap.size ≠ u0.heap.size := by omega
              have hs13 : (∀ i, i < 2 → ∃ v, x1.cell? ⟨u3.heap.size, i, none⟩ = some v) ∧ (∀ j, x1.frozen? ⟨u3.heap.size, j, none⟩ = false) := ⟨fun i hi => by obtain ⟨v, hv⟩ := h9_4.1 i hi; exact ⟨v, (t6 _ _ hn2).trans hv⟩, fun j => (World.frozen?_of_block (a := ⟨u3.heap.size, j, none⟩) (t7 _ hn2)).trans (h9_4.2 j)⟩
              obtain ⟨⟨av0, a0⟩, ⟨av1, a1⟩⟩ := And.intro (hs13.1 0 (by omega)) (hs13.1 1 (by omega))
              have af := hs13.2
              have k12 : u0.heap.size < x1.heap.size := by rw [t8]; exact q8_4
              have k13 : u3.heap.size < x1.heap.size := by rw [t8]; exact q9_4
              have T0 := Lib.hid t0
              have T1 := Lib.hid t1
              clear t0 t1 t5 t6 t7 t8 hs1 e0 e1 ef
              refine wpAnyH_ready (rs := [11]) (by kernel_rfl) (by simp) ?_
              refine AllReadyH.cons rfl (fun K hK => ?_) (AllReadyH.nil)
              go_simp
              go_wp2_with fail
              refine hK.out _ _ (HS'.out _ (set2_below hBs g9)) (fun hHeld => ?_)
              clear hK K
              try simp only [Act.put, List.setIfInBounds_toArray, List.set_cons_zero, List.set_cons_succ]
              refine wpAnyH_done (by kernel_rfl) ?_ _
              go_wp2_with fail
              go_meet
              exact ⟨rfl, R8.of hBs g8 k12 g9 k13 hnn T0.out T1.out hs13⟩
            · skip
              go_simp
              go_wp2_with fail
              refine hK.out _ _ (HS'.out _ ((hB2).alloc (hB2).size _)) (fun hHeld => ?_)
              clear hK K
              try simp only [Act.put, List.setIfInBounds_toArray, List.set_cons_zero, List.set_cons_succ]
              generalize hq3 : u2.alloc (.cells #[.int .i64 0, .int .i64 0] 57) = u3
              have hb3 : Below u2.heap.size u2 u3 := by rw [← hq3]; exact (Below.refl _ _).alloc (Nat.le_refl _) _
              have hB3 : Below w4.heap.size w4 u3 := (hB2).trans (hb3.mono (hB2).size)
              have h8_3 := has2_below (b := u0.heap.size) h8_2 hb3 q8_2
              have q8_3 : u0.heap.size < u3.heap.size := Nat.lt_of_lt_of_le q8_2 hb3.size
              have h9_3 : (∀ i, i < 2 → ∃ v, u3.cell? ⟨u2.heap.size, i, none⟩ = some v) ∧ (∀ j, u3.frozen? ⟨u2.heap.size, j, none⟩ = false) := by rw [← hq3]; exact new2_is u2 _ _ _
              have q9_3 : u2.heap.size < u3.heap.size := by rw [← hq3]; simp
              have g9 : w4.heap.size ≤ u2.heap.size := (hB2).size
              clear hq3
              refine wpAnyH_ready (rs := [7]) (by kernel_rfl) (by simp) ?_
              refine AllReadyH.cons rfl (fun K hK => ?_) (AllReadyH.nil)
              go_simp
              refine (HE1.out _).mono ?_
              rintro e u4 ⟨rfl, hb4⟩
              have hB4 : Below w4.heap.size w4 u4 := (hB3).trans (hb4.mono (hB3).size)
              have h8_4 := has2_below (b := u0.heap.size) h8_3 hb4 q8_3
              have q8_4 : u0.heap.size < u4.heap.size := Nat.lt_of_lt_of_le q8_3 hb4.size
              have h9_4 := has2_below (b := u2.heap.size) h9_3 hb4 q9_3
              have q9_4 : u2.heap.size < u4.heap.size := Nat.lt_of_lt_of_le q9_3 hb4.size
              go_wp2_with fail
              refine hK.out _ _ (HS'.out _ (hB4)) (fun hHeld => ?_)
              clear hK K
              try simp only [Act.put, List.setIfInBounds_toArray, List.set_cons_zero, List.set_cons_succ]
              obtain ⟨⟨ev0, e0⟩, ⟨ev1, e1⟩⟩ := And.intro (h8_4.1 0 (by omega)) (h8_4.1 1 (by omega))
              have ef := h8_4.2
              refine wpAnyH_ready (rs := [10]) (by kernel_rfl) (by simp) ?_
              refine AllReadyH.cons rfl (fun K hK => ?_) (AllReadyH.nil)
              go_simp
              go_wp2_with fail
              refine hK.out _ _ (HS'.out _ (set2_below hB4 g8)) (fun hHeld => ?_)
              clear hK K
              try simp only [Act.put, List.setIfInBounds_toArray, List.set_cons_zero, List.set_cons_succ]
              have HH := set2_is (X := u4) (b := u0.heap.size) (.int .i64 P) (.int .i64 Q) h8_4.1 h8_4.2
              unfold set2 at HH
              have hBs : Below w4.heap.size w4 (set2 u4 u0.heap.size (.int .i64 P) (.int .i64 Q)) := set2_below hB4 g8
              unfold set2 at hBs
              generalize hs1 : (u4.setCell ⟨u0.heap.size, 0, none⟩ (.int .i64 P)).setCell ⟨u0.heap.size, 1, none⟩ (.int .i64 Q) = x1 at *
              obtain ⟨t0, t1, t5, t6, t7, t8⟩ := HH
              have hnn : u0.heap.size ≠ u2.heap.size := by omega
              have hn2 : u2.heap.size ≠ u0.heap.size := by omega
              have hs13 : (∀ i, i < 2 → ∃ v, x1.cell? ⟨u2.heap.size, i, none⟩ = some v) ∧ (∀ j, x1.frozen? ⟨u2.heap.size, j, none⟩ = false) := ⟨fun i hi => by obtain ⟨v, hv⟩ := h9_4.1 i hi; exact ⟨v, (t6 _ _ hn2).trans hv⟩, fun j => (World.frozen?_of_block (a := ⟨u2.heap.size, j, none⟩) (t7 _ hn2)).trans (h9_4.2 j)⟩
              obtain ⟨⟨av0, a0⟩, ⟨av1, a1⟩⟩ := And.intro (hs13.1 0 (by omega)) (hs13.1 1 (by omega))
              have af := hs13.2
              have k12 : u0.heap.size < x1.heap.size := by rw [t8]; exact q8_4
              have k13 : u2.heap.size < x1.heap.size := by rw [t8]; exact q9_4
              have T0 := Lib.hid t0
              have T1 := Lib.hid t1
              clear t0 t1 t5 t6 t7 t8 hs1 e0 e1 ef
              refine wpAnyH_ready (rs := [11]) (by kernel_rfl) (by simp) ?_
              refine AllReadyH.cons rfl (fun K hK => ?_) (AllReadyH.nil)
              go_simp
              go_wp2_with fail
              refine hK.out _ _ (HS'.out _ (set2_below hBs g9)) (fun hHeld => ?_)
              clear hK K
              try simp only [Act.put, List.setIfInBounds_toArray, List.set_cons_zero, List.set_cons_succ]
              refine wpAnyH_done (by kernel_rfl) ?_ _
              go_wp2_with fail
              go_meet
              exact ⟨rfl, R8.of hBs g8 k12 g9 k13 hnn T0.out T1.out hs13⟩
          · skip
            go_simp
            go_wp2_with fail
            refine hK.out _ _ (HS'.out _ ((hB1).alloc (hB1).size _)) (fun hHeld => ?_)
            clear hK K
            try simp only [Act.put, List.setIfInBounds_toArray, List.set_cons_zero, List.set_cons_succ]
            generalize hq2 : u1.alloc (.cells #[.int .i64 0, .int .i64 0] 57) = u2
            have hb2 : Below u1.heap.size u1 u2 := by rw [← hq2]; exact (Below.refl _ _).alloc (Nat.le_refl _) _
            have hB2 : Below w4.heap.size w4 u2 := (hB1).trans (hb2.mono (hB1).size)
            have h8_2 := has2_below (b := u0.heap.size) h8_1 hb2 q8_1
            have q8_2 : u0.heap.size < u2.heap.size := Nat.lt_of_lt_of_le q8_1 hb2.size
            have h9_2 : (∀ i, i < 2 → ∃ v, u2.cell? ⟨u1.heap.size, i, none⟩ = some v) ∧ (∀ j, u2.frozen? ⟨u1.heap.size, j, none⟩ = false) := by rw [← hq2]; exact new2_is u1 _ _ _
            have q9_2 : u1.heap.size < u2.heap.size := by rw [← hq2]; simp
            have g9 : w4.heap.size ≤ u1.heap.size := (hB1).size
            clear hq2
            refine wpAnyH_ready (rs := [2]) (by kernel_rfl) (by simp) ?_
            refine AllReadyH.cons rfl (fun K hK => ?_) (AllReadyH.nil)
            go_simp
            refine (HL1.out _).mono ?_
            rintro e u3 ⟨rfl, hb3⟩
            have hB3 : Below w4.heap.size w4 u3 := (hB2).trans (hb3.mono (hB2).size)
            have h8_3 := has2_below (b := u0.heap.size) h8_2 hb3 q8_2
            have q8_3 : u0.heap.size < u3.heap.size := Nat.lt_of_lt_of_le q8_2 hb3.size
            have h9_3 := has2_below (b := u1.heap.size) h9_2 hb3 q9_2
            have q9_3 : u1.heap.size < u3.heap.size := Nat.lt_of_lt_of_le q9_2 hb3.size
            go_wp2_with fail
            refine hK.out _ _ (HS'.out _ (hB3)) (fun hHeld => ?_)
            clear hK K
            try simp only [Act.put, List.setIfInBounds_toArray, List.set_cons_zero, List.set_cons_succ]
            refine wpAnyH_ready (rs := [7]) (by kernel_rfl) (by simp) ?_
            refine AllReadyH.cons rfl (fun K hK => ?_) (AllReadyH.nil)
            go_simp
            refine (HE1.out _).mono ?_
            rintro e u4 ⟨rfl, hb4⟩
            have hB4 : Below w4.heap.size w4 u4 := (hB3).trans (hb4.mono (hB3).size)
            have h8_4 := has2_below (b := u0.heap.size) h8_3 hb4 q8_3
            have q8_4 : u0.heap.size < u4.heap.size := Nat.lt_of_lt_of_le q8_3 hb4.size
            have h9_4 := has2_below (b := u1.heap.size) h9_3 hb4 q9_3
            have q9_4 : u1.heap.size < u4.heap.size := Nat.lt_of_lt_of_le q9_3 hb4.size
            go_wp2_with fail
            refine hK.out _ _ (HS'.out _ (hB4)) (fun hHeld => ?_)
            clear hK K
            try simp only [Act.put, List.setIfInBounds_toArray, List.set_cons_zero, List.set_cons_succ]
            obtain ⟨⟨ev0, e0⟩, ⟨ev1, e1⟩⟩ := And.intro (h8_4.1 0 (by omega)) (h8_4.1 1 (by omega))
            have ef := h8_4.2
            refine wpAnyH_ready (rs := [10]) (by kernel_rfl) (by simp) ?_
            refine AllReadyH.cons rfl (fun K hK => ?_) (AllReadyH.nil)
            go_simp
            go_wp2_with fail
            refine hK.out _ _ (HS'.out _ (set2_below hB4 g8)) (fun hHeld => ?_)
            clear hK K
            try simp only [Act.put, List.setIfInBounds_toArray, List.set_cons_zero, List.set_cons_succ]
            have HH := set2_is (X := u4) (b := u0.heap.size) (.int .i64 P) (.int .i64 Q) h8_4.1 h8_4.2
            unfold set2 at HH
            have hBs : Below w4.heap.size w4 (set2 u4 u0.heap.size (.int .i64 P) (.int .i64 Q)) := set2_below hB4 g8
            unfold set2 at hBs
            generalize hs1 : (u4.setCell ⟨u0.heap.size, 0, none⟩ (.int .i64 P)).setCell ⟨u0.heap.size, 1, none⟩ (.int .i64 Q) = x1 at *
            obtain ⟨t0, t1, t5, t6, t7, t8⟩ := HH
            have hnn : u0.heap.size ≠ u1.heap.size := by omega
            have hn2 : u1.heap.size ≠ u0.heap.size := by omega
            have hs13 : (∀ i, i < 2 → ∃ v, x1.cell? ⟨u1.heap.size, i, none⟩ = some v) ∧ (∀ j, x1.frozen? ⟨u1.heap.size, j, none⟩ = false) := ⟨fun i hi => by obtain ⟨v, hv⟩ := h9_4.1 i hi; exact ⟨v, (t6 _ _ hn2).trans hv⟩, fun j => (World.frozen?_of_block (a := ⟨u1.heap.size, j, none⟩) (t7 _ hn2)).trans (h9_4.2 j)⟩
            obtain ⟨⟨av0, a0⟩, ⟨av1, a1⟩⟩ := And.intro (hs13.1 0 (by omega)) (hs13.1 1 (by omega))
            have af := hs13.2
            have k12 : u0.heap.size < x1.heap.size := by rw [t8]; exact q8_4
            have k13 : u1.heap.size < x1.heap.size := by rw [t8]; exact q9_4
            have T0 := Lib.hid t0
            have T1 := Lib.hid t1
            clear t0 t1 t5 t6 t7 t8 hs1 e0 e1 ef
            refine wpAnyH_ready (rs := [11]) (by kernel_rfl) (by simp) ?_
            refine AllReadyH.cons rfl (fun K hK => ?_) (AllReadyH.nil)
            go_simp
            go_wp2_with fail
            refine hK.out _ _ (HS'.out _ (set2_below hBs g9)) (fun hHeld => ?_)
            clear hK K
            try simp only [Act.put, List.setIfInBounds_toArray, List.set_cons_zero, List.set_cons_succ]
            refine wpAnyH_done (by kernel_rfl) ?_ _
            go_wp2_with fail
            go_meet
            exact ⟨rfl, R8.of hBs g8 k12 g9 k13 hnn T0.out T1.out hs13⟩
        · skip
          go_simp
          go_wp2_with fail
          refine hK.out _ _ (HS'.out _ ((hB0).alloc (hB0).size _)) (fun hHeld => ?_)
          clear hK K
          try simp only [Act.put, List.setIfInBounds_toArray, List.set_cons_zero, List.set_cons_succ]
          generalize hq1 : u0.alloc (.cells #[.int .i64 0, .int .i64 0] 57) = u1
          have hb1 : Below u0.heap.size u0 u1 := by rw [← hq1]; exact (Below.refl _ _).alloc (Nat.le_refl _) _
          have hB1 : Below w4.heap.size w4 u1 := (hB0).trans (hb1.mono (hB0).size)
          have h9_1 : (∀ i, i < 2 → ∃ v, u1.cell? ⟨u0.heap.size, i, none⟩ = some v) ∧ (∀ j, u1.frozen? ⟨u0.heap.size, j, none⟩ = false) := by rw [← hq1]; exact new2_is u0 _ _ _
          have q9_1 : u0.heap.size < u1.heap.size := by rw [← hq1]; simp
          have g9 : w4.heap.size ≤ u0.heap.size := (hB0).size
          clear hq1
          refine wpAnyH_ready (rs := [2, 8]) (by kernel_rfl) (by simp) ?_
          refine AllReadyH.cons rfl (fun K hK => ?_) (AllReadyH.cons rfl (fun K hK => ?_) (AllReadyH.nil))
          · skip
            go_simp
            refine (HL1.out _).mono ?_
            rintro e u2 ⟨rfl, hb2⟩
            have hB2 : Below w4.heap.size w4 u2 := (hB1).trans (hb2.mono (hB1).size)
            have h9_2 := has2_below (b := u0.heap.size) h9_1 hb2 q9_1
            have q9_2 : u0.heap.size < u2.heap.size := Nat.lt_of_lt_of_le q9_1 hb2.size
            go_wp2_with fail
            refine hK.out _ _ (HS'.out _ (hB2)) (fun hHeld => ?_)
            clear hK K
            try simp only [Act.put, List.setIfInBounds_toArray, List.set_cons_zero, List.set_cons_succ]
            refine wpAnyH_ready (rs := [7, 8]) (by kernel_rfl) (by simp) ?_
            refine AllReadyH.cons rfl (fun K hK => ?_) (AllReadyH.cons rfl (fun K hK => ?_) (AllReadyH.nil))
            · skip
              go_simp
              refine (HE1.out _).mono ?_
              rintro e u3 ⟨rfl, hb3⟩
              have hB3 : Below w4.heap.size w4 u3 := (hB2).trans (hb3.mono (hB2).size)
              have h9_3 := has2_below (b := u0.heap.size) h9_2 hb3 q9_2
              have q9_3 : u0.heap.size < u3.heap.size := Nat.lt_of_lt_of_le q9_2 hb3.size
              go_wp2_with fail
              refine hK.out _ _ (HS'.out _ (hB3)) (fun hHeld => ?_)
              clear hK K
              try simp only [Act.put, List.setIfInBounds_toArray, List.set_cons_zero, List.set_cons_succ]
              refine wpAnyH_ready (rs := [8]) (by kernel_rfl) (by simp) ?_
              refine AllReadyH.cons rfl (fun K hK => ?_) (AllReadyH.nil)
              go_simp
              go_wp2_with fail
              refine hK.out _ _ (HS'.out _ ((hB3).alloc (hB3).size _)) (fun hHeld => ?_)
              clear hK K
              try simp only [Act.put, List.setIfInBounds_toArray, List.set_cons_zero, List.set_cons_succ]
              generalize hq4 : u3.alloc (.cells #[.int .i64 0, .int .i64 0] 106) = u4
              have hb4 : Below u3.heap.size u3 u4 := by rw [← hq4]; exact (Below.refl _ _).alloc (Nat.le_refl _) _
              have hB4 : Below w4.heap.size w4 u4 := (hB3).trans (hb4.mono (hB3).size)
              have h9_4 := has2_below (b := u0.heap.size) h9_3 hb4 q9_3
              have q9_4 : u0.heap.size < u4.heap.size := Nat.lt_of_lt_of_le q9_3 hb4.size
              have h8_4 : (∀ i, i < 2 → ∃ v, u4.cell? ⟨u3.heap.size, i, none⟩ = some v) ∧ (∀ j, u4.frozen? ⟨u3.heap.size, j, none⟩ = false) := by rw [← hq4]; exact new2_is u3 _ _ _
              have q8_4 : u3.heap.size < u4.heap.size := by rw [← hq4]; simp
              have g8 : w4.heap.size ≤ u3.heap.size := (hB3).size
              clear hq4
              obtain ⟨⟨ev0, e0⟩, ⟨ev1, e1⟩⟩ := And.intro (h8_4.1 0 (by omega)) (h8_4.1 1 (by omega))
              have ef := h8_4.2
              refine wpAnyH_ready (rs := [10]) (by kernel_rfl) (by simp) ?_
              refine AllReadyH.cons rfl (fun K hK => ?_) (AllReadyH.nil)
              go_simp
              go_wp2_with fail
              refine hK.out _ _ (HS'.out _ (set2_below hB4 g8)) (fun hHeld => ?_)
              clear hK K
              try simp only [Act.put, List.setIfInBounds_toArray, List.set_cons_zero, List.set_cons_succ]
              have HH := set2_is (X := u4) (b := u3.heap.size) (.int .i64 P) (.int .i64 Q) h8_4.1 h8_4.2
              unfold set2 at HH
              have hBs : Below w4.heap.size w4 (set2 u4 u3.heap.size (.int .i64 P) (.int .i64 Q)) := set2_below hB4 g8
              unfold set2 at hBs
              generalize hs1 : (u4.setCell ⟨u3.heap.size, 0, none⟩ (.int .i64 P)).setCell ⟨u3.heap.size, 1, none⟩ (.int .i64 Q) = x1 at *
              obtain ⟨t0, t1, t5, t6, t7, t8⟩ := HH
              have hnn : u3.heap.size ≠ u0.heap.size := by omega
              have hn2 : u0.heap.size ≠ u3.heap.size := by omega
              have hs13 : (∀ i, i < 2 → ∃ v, x1.cell? ⟨u0.heap.size, i, none⟩ = some v) ∧ (∀ j, x1.frozen? ⟨u0.heap.size, j, none⟩ = false) := ⟨fun i hi => by obtain ⟨v, hv⟩ := h9_4.1 i hi; exact ⟨v, (t6 _ _ hn2).trans hv⟩, fun j => (World.frozen?_of_block (a := ⟨u0.heap.size, j, none⟩) (t7 _ hn2)).trans (h9_4.2 j)⟩
              obtain ⟨⟨av0, a0⟩, ⟨av1, a1⟩⟩ := And.intro (hs13.1 0 (by omega)) (hs13.1 1 (by omega))
              have af := hs13.2
              have k12 : u3.heap.size < x1.heap.size := by rw [t8]; exact q8_4
              have k13 : u0.heap.size < x1.heap.size := by rw [t8]; exact q9_4
              have T0 := Lib.hid t0
              have T1 := Lib.hid t1
              clear t0 t1 t5 t6 t7 t8 hs1 e0 e1 ef
              refine wpAnyH_ready (rs := [11]) (by kernel_rfl) (by simp) ?_
              refine AllReadyH.cons rfl (fun K hK => ?_) (AllReadyH.nil)
              go_simp
              go_wp2_with fail
              refine hK.out _ _ (HS'.out _ (set2_below hBs g9)) (fun hHeld => ?_)
              clear hK K
              try simp only [Act.put, List.setIfInBounds_toArray, List.set_cons_zero, List.set_cons_succ]
              refine wpAnyH_done (by kernel_rfl) ?_ _
              go_wp2_with fail
              go_meet
              exact ⟨rfl, R8.of hBs g8 k12 g9 k13 hnn T0.out T1.out hs13⟩
            · skip
              go_simp
              go_wp2_with fail
              refine hK.out _ _ (HS'.out _ ((hB2).alloc (hB2).size _)) (fun hHeld => ?_)
              clear hK K
              try simp only [Act.put, List.setIfInBounds_toArray, List.set_cons_zero, List.set_cons_succ]
              generalize hq3 : u2.alloc (.cells #[.int .i64 0, .int .i64 0] 106) = u3
              have hb3 : Below u2.heap.size u2 u3 := by rw [← hq3]; exact (Below.refl _ _).alloc (Nat.le_refl _) _
              have hB3 : Below w4.heap.size w4 u3 := (hB2).trans (hb3.mono (hB2).size)
              have h9_3 := has2_below (b := u0.heap.size) h9_2 hb3 q9_2
              have q9_3 : u0.heap.size < u3.heap.size := Nat.lt_of_lt_of_le q9_2 hb3.size
              have h8_3 : (∀ i, i < 2 → ∃ v, u3.cell? ⟨u2.heap.size, i, none⟩ = some v) ∧ (∀ j, u3.frozen? ⟨u2.heap.size, j, none⟩ = false) := by rw [← hq3]; exact new2_is u2 _ _ _
              have q8_3 : u2.heap.size < u3.heap.size := by rw [← hq3]; simp
              have g8 : w4.heap.size ≤ u2.heap.size := (hB2).size
              clear hq3
              refine wpAnyH_ready (rs := [7]) (by kernel_rfl) (by simp) ?_
              refine AllReadyH.cons rfl (fun K hK => ?_) (AllReadyH.nil)
              go_simp
              refine (HE1.out _).mono ?_
              rintro e u4 ⟨rfl, hb4⟩
              have hB4 : Below w4.heap.size w4 u4 := (hB3).trans (hb4.mono (hB3).size)
              have h9_4 := has2_below (b := u0.heap.size) h9_3 hb4 q9_3
              have q9_4 : u0.heap.size < u4.heap.size := Nat.lt_of_lt_of_le q9_3 hb4.size
              have h8_4 := has2_below (b := u2.heap.size) h8_3 hb4 q8_3
              have q8_4 : u2.heap.size < u4.heap.size := Nat.lt_of_lt_of_le q8_3 hb4.size
              go_wp2_with fail
              refine hK.out _ _ (HS'.out _ (hB4)) (fun hHeld => ?_)
              clear hK K
              try simp only [Act.put, List.setIfInBounds_toArray, List.set_cons_zero, List.set_cons_succ]
              obtain ⟨⟨ev0, e0⟩, ⟨ev1, e1⟩⟩ := And.intro (h8_4.1 0 (by omega)) (h8_4.1 1 (by omega))
              have ef := h8_4.2
              refine wpAnyH_ready (rs := [10]) (by kernel_rfl) (by simp) ?_
              refine AllReadyH.cons rfl (fun K hK => ?_) (AllReadyH.nil)
              go_simp
              go_wp2_with fail
              refine hK.out _ _ (HS'.out _ (set2_below hB4 g8)) (fun hHeld => ?_)
              clear hK K
              try simp only [Act.put, List.setIfInBounds_toArray, List.set_cons_zero, List.set_cons_succ]
              have HH := set2_is (X := u4) (b := u2.heap.size) (.int .i64 P) (.int .i64 Q) h8_4.1 h8_4.2
              unfold set2 at HH
              have hBs : Below w4.heap.size w4 (set2 u4 u2.heap.size (.int .i64 P) (.int .i64 Q)) := set2_below hB4 g8
              unfold set2 at hBs
              generalize hs1 : (u4.setCell ⟨u2.heap.size, 0, none⟩ (.int .i64 P)).setCell ⟨u2.heap.size, 1, none⟩ (.int .i64 Q) = x1 at *
              obtain ⟨t0, t1, t5, t6, t7, t8⟩ := HH
              have hnn : u2.heap.size ≠ u0.heap.size := by omega
              have hn2 : u0.heap.size ≠ u2.heap.size := by omega
              have hs13 : (∀ i, i < 2 → ∃ v, x1.cell? ⟨u0.heap.size, i, none⟩ = some v) ∧ (∀ j, x1.frozen? ⟨u0.heap.size, j, none⟩ = false) := ⟨fun i hi => by obtain ⟨v, hv⟩ := h9_4.1 i hi; exact ⟨v, (t6 _ _ hn2).trans hv⟩, fun j => (World.frozen?_of_block (a := ⟨u0.heap.size, j, none⟩) (t7 _ hn2)).trans (h9_4.2 j)⟩
              obtain ⟨⟨av0, a0⟩, ⟨av1, a1⟩⟩ := And.intro (hs13.1 0 (by omega)) (hs13.1 1 (by omega))
              have af := hs13.2
              have k12 : u2.heap.size < x1.heap.size := by rw [t8]; exact q8_4
              have k13 : u0.heap.size < x1.heap.size := by rw [t8]; exact q9_4
              have T0 := Lib.hid t0
              have T1 := Lib.hid t1
              clear t0 t1 t5 t6 t7 t8 hs1 e0 e1 ef
              refine wpAnyH_ready (rs := [11]) (by kernel_rfl) (by simp) ?_
              refine AllReadyH.cons rfl (fun K hK => ?_) (AllReadyH.nil)
              go_simp
              go_wp2_with fail
              refine hK.out _ _ (HS'.out _ (set2_below hBs g9)) (fun hHeld => ?_)
              clear hK K
              try simp only [Act.put, List.setIfInBounds_toArray, List.set_cons_zero, List.set_cons_succ]
              refine wpAnyH_done (by kernel_rfl) ?_ _
              go_wp2_with fail
              go_meet
              exact ⟨rfl, R8.of hBs g8 k12 g9 k13 hnn T0.out T1.out hs13⟩
          · skip
            go_simp
            go_wp2_with fail
            refine hK.out _ _ (HS'.out _ ((hB1).alloc (hB1).size _)) (fun hHeld => ?_)
            clear hK K
            try simp only [Act.put, List.setIfInBounds_toArray, List.set_cons_zero, List.set_cons_succ]
            generalize hq2 : u1.alloc (.cells #[.int .i64 0, .int .i64 0] 106) = u2
            have hb2 : Below u1.heap.size u1 u2 := by rw [← hq2]; exact (Below.refl _ _).alloc (Nat.le_refl _) _
            have hB2 : Below w4.heap.size w4 u2 := (hB1).trans (hb2.mono (hB1).size)
            have h9_2 := has2_below (b := u0.heap.size) h9_1 hb2 q9_1
            have q9_2 : u0.heap.size < u2.heap.size := Nat.lt_of_lt_of_le q9_1 hb2.size
            have h8_2 : (∀ i, i < 2 → ∃ v, u2.cell? ⟨u1.heap.size, i, none⟩ = some v) ∧ (∀ j, u2.frozen? ⟨u1.heap.size, j, none⟩ = false) := by rw [← hq2]; exact new2_is u1 _ _ _
            have q8_2 : u1.heap.size < u2.heap.size := by rw [← hq2]; simp
            have g8 : w4.heap.size ≤ u1.heap.size := (hB1).size
            clear hq2
            refine wpAnyH_ready (rs := [2]) (by kernel_rfl) (by simp) ?_
            refine AllReadyH.cons rfl (fun K hK => ?_) (AllReadyH.nil)
            go_simp
            refine (HL1.out _).mono ?_
            rintro e u3 ⟨rfl, hb3⟩
            have hB3 : Below w4.heap.size w4 u3 := (hB2).trans (hb3.mono (hB2).size)
            have h9_3 := has2_below (b := u0.heap.size) h9_2 hb3 q9_2
            have q9_3 : u0.heap.size < u3.heap.size := Nat.lt_of_lt_of_le q9_2 hb3.size
            have h8_3 := has2_below (b := u1.heap.size) h8_2 hb3 q8_2
            have q8_3 : u1.heap.size < u3.heap.size := Nat.lt_of_lt_of_le q8_2 hb3.size
            go_wp2_with fail
            refine hK.out _ _ (HS'.out _ (hB3)) (fun hHeld => ?_)
            clear hK K
            try simp only [Act.put, List.setIfInBounds_toArray, List.set_cons_zero, List.set_cons_succ]
            refine wpAnyH_ready (rs := [7]) (by kernel_rfl) (by simp) ?_
            refine AllReadyH.cons rfl (fun K hK => ?_) (AllReadyH.nil)
            go_simp
            refine (HE1.out _).mono ?_
            rintro e u4 ⟨rfl, hb4⟩
            have hB4 : Below w4.heap.size w4 u4 := (hB3).trans (hb4.mono (hB3).size)
            have h9_4 := has2_below (b := u0.heap.size) h9_3 hb4 q9_3
            have q9_4 : u0.heap.size < u4.heap.size := Nat.lt_of_lt_of_le q9_3 hb4.size
            have h8_4 := has2_below (b := u1.heap.size) h8_3 hb4 q8_3
            have q8_4 : u1.heap.size < u4.heap.size := Nat.lt_of_lt_of_le q8_3 hb4.size
            go_wp2_with fail
            refine hK.out _ _ (HS'.out _ (hB4)) (fun hHeld => ?_)
            clear hK K
            try simp only [Act.put, List.setIfInBounds_toArray, List.set_cons_zero, List.set_cons_succ]
            obtain ⟨⟨ev0, e0⟩, ⟨ev1, e1⟩⟩ := And.intro (h8_4.1 0 (by omega)) (h8_4.1 1 (by omega))
            have ef := h8_4.2
            refine wpAnyH_ready (rs := [10]) (by kernel_rfl) (by simp) ?_
            refine AllReadyH.cons rfl (fun K hK => ?_) (AllReadyH.nil)
            go_simp
            go_wp2_with fail
            refine hK.out _ _ (HS'.out _ (set2_below hB4 g8)) (fun hHeld => ?_)
            clear hK K
            try simp only [Act.put, List.setIfInBounds_toArray, List.set_cons_zero, List.set_cons_succ]
            have HH := set2_is (X := u4) (b := u1.heap.size) (.int .i64 P) (.int .i64 Q) h8_4.1 h8_4.2
            unfold set2 at HH
            have hBs : Below w4.heap.size w4 (set2 u4 u1.heap.size (.int .i64 P) (.int .i64 Q)) := set2_below hB4 g8
            unfold set2 at hBs
            generalize hs1 : (u4.setCell ⟨u1.heap.size, 0, none⟩ (.int .i64 P)).setCell ⟨u1.heap.size, 1, none⟩ (.int .i64 Q) = x1 at *
            obtain ⟨t0, t1, t5, t6, t7, t8⟩ := HH
            have hnn : u1.heap.size ≠ u0.heap.size := by omega
            have hn2 : u0.heap.size ≠ u1.heap.size := by omega
            have hs13 : (∀ i, i < 2 → ∃ v, x1.cell? ⟨u0.heap.size, i, none⟩ = some v) ∧ (∀ j, x1.frozen? ⟨u0.heap.size, j, none⟩ = false) := ⟨fun i hi => by obtain ⟨v, hv⟩ := h9_4.1 i hi; exact ⟨v, (t6 _ _ hn2).trans hv⟩, fun j => (World.frozen?_of_block (a := ⟨u0.heap.size, j, none⟩) (t7 _ hn2)).trans (h9_4.2 j)⟩
            obtain ⟨⟨av0, a0⟩, ⟨av1, a1⟩⟩ := And.intro (hs13.1 0 (by omega)) (hs13.1 1 (by omega))
            have af := hs13.2
            have k12 : u1.heap.size < x1.heap.size := by rw [t8]; exact q8_4
            have k13 : u0.heap.size < x1.heap.size := by rw [t8]; exact q9_4
            have T0 := Lib.hid t0
            have T1 := Lib.hid t1
            clear t0 t1 t5 t6 t7 t8 hs1 e0 e1 ef
            refine wpAnyH_ready (rs := [11]) (by kernel_rfl) (by simp) ?_
            refine AllReadyH.cons rfl (fun K hK => ?_) (AllReadyH.nil)
            go_simp
            go_wp2_with fail
            refine hK.out _ _ (HS'.out _ (set2_below hBs g9)) (fun hHeld => ?_)
            clear hK K
            try simp only [Act.put, List.setIfInBounds_toArray, List.set_cons_zero, List.set_cons_succ]
            refine wpAnyH_done (by kernel_rfl) ?_ _
            go_wp2_with fail
            go_meet
            exact ⟨rfl, R8.of hBs g8 k12 g9 k13 hnn T0.out T1.out hs13⟩
      case rest =>
        obtain ⟨rfl, b12, b13, rfl, rfl, g12, q12, g13, q13, t0, t1, t2, t3, hB5⟩ := hcut
        have hBc : Below w.heap.size w wc := hB4.trans (hB5.mono hB4.size)
        clear hB5 hB4 e0 e1 e2 e3 d0 d1 d2 d3 g12 g13 HL1 HE1 l11 mq llt plt
        by_cases hlo : 1000 * X ≤ V
        · have hA1 := Lib.hid (fun w => allows_is P Q X p V true w bb.1 bb.2 (by omega) ss.2 (by omega) p1 x0.1 x0.2 hVV (by show _ = _; simpa using hlo))
          have HN : Hid (keptR p f (T.drop (k + 1)) (L.drop (k + 1)) (if 1000 * Y ≤ V then x else 1) = E) := by have := HST.out; rw [if_pos hlo] at this; exact this.symm
          clear HST hlo
          go_wp2_with fail
          refine (hA1.out _).mono ?_
          rintro e w5 ⟨rfl, hb5⟩
          replace t0 := (hb5.cell (p := ⟨b12, 0, none⟩) q12).trans t0
          replace t1 := (hb5.cell (p := ⟨b12, 1, none⟩) q12).trans t1
          replace t2 := (hb5.cell (p := ⟨b13, 0, none⟩) q13).trans t2
          replace t3 := (hb5.cell (p := ⟨b13, 1, none⟩) q13).trans t3
          have hB5 : Below w.heap.size w w5 := hBc.trans (hb5.mono hBc.size)
          clear hb5 hBc q12 q13
          by_cases hhi : 1000 * Y ≤ V
          · have hA2 := Lib.hid (fun w => allows_is P Q Y p V true w bb.1 bb.2 (by omega) ss.2 (by omega) p1 y0.1 y0.2 hVV (by show _ = _; simpa using hhi))
            have HN2 : Hid (keptR p f (T.drop (k + 1)) (L.drop (k + 1)) x = E) := by have := HN.out; rw [if_pos hhi] at this; exact this
            clear HN hhi
            go_wp2_with fail
            refine (hA2.out _).mono ?_
            rintro e w6 ⟨rfl, hb6⟩
            have hB6 : Below w.heap.size w w6 := hB5.trans (hb6.mono hB5.size)
            clear hb6 hB5
            go_wp2
            go_roundw
            case rel => exact ⟨k + 1, x, by omega, by go_num, rfl, HN2, hB6⟩
            case measure => simp [intOf]; omega
          · have hA2 := Lib.hid (fun w => allows_is P Q Y p V false w bb.1 bb.2 (by omega) ss.2 (by omega) p1 y0.1 y0.2 hVV (by show _ = _; simpa using hhi))
            have HN2 : Hid (keptR p f (T.drop (k + 1)) (L.drop (k + 1)) 1 = E) := by have := HN.out; rw [if_neg hhi] at this; exact this
            clear HN hhi
            go_wp2_with fail
            refine (hA2.out _).mono ?_
            rintro e w6 ⟨rfl, hb6⟩
            have hB6 : Below w.heap.size w w6 := hB5.trans (hb6.mono hB5.size)
            clear hb6 hB5
            go_wp2
            go_roundw
            case rel => exact ⟨k + 1, 1, by omega, by go_num, rfl, HN2, hB6⟩
            case measure => simp [intOf]; omega
        · have hA1 := Lib.hid (fun w => allows_is P Q X p V false w bb.1 bb.2 (by omega) ss.2 (by omega) p1 x0.1 x0.2 hVV (by show _ = _; simpa using hlo))
          have HN : Hid (E = 0) := by have := HST.out; rw [if_neg hlo] at this; exact this
          clear HST hlo
          go_wp2_with fail
          refine (hA1.out _).mono ?_
          rintro e w5 ⟨rfl, hb5⟩
          have hB5 : Below w.heap.size w w5 := hBc.trans (hb5.mono hBc.size)
          clear hb5 hBc
          go_wp2
          go_ret
          exact ⟨ret_int HN.out.symm, hB5⟩
    · have hkl2 : ¬ (k : Int) < T.length := by omega
      have HN : Hid (E = x) := by show _ = _; rw [← hx.out, keptR_end (by omega)]
      go_wp2
      go_ret
      exact ⟨ret_int HN.out.symm, hB⟩
end Go.Proofs.Ytbdiljbjddppcaa
