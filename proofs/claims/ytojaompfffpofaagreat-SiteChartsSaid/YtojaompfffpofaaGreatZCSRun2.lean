import Derived.Test.YtojaompfffpofaaGreatZCSRun
import Derived.Outline
namespace Go.Proofs.YtojaompfffpofaaGreat
open Go.ChangeShapes Go.WideShapes Go.ChangeAt Go.RowKit
set_option linter.unusedVariables false
set_option linter.unusedSimpArgs false
attribute [local go_sem ↓] Go.wp_at_zero Go.wp_at_succ
/-- A right run on a right chart, in memory. -/
structure RnSl (w : World) (A B Aq As : Option Addr) (n l : Nat) (Pl : List ByteArray) (M : List (List Int)) (bg : Int) (Q Z : List Int) : Prop where
  ch : ChSl w A B n Pl M
  q : SlRows intV 1 w Aq Q
  z : SlRows intV 1 w As Z
  ok : RunOk n M bg Q Z
  hl : l = Q.length
theorem RnSl.below {w w' : World} {A B Aq As : Option Addr} {n l : Nat} {Pl : List ByteArray} {M : List (List Int)} {bg : Int} {Q Z : List Int} (h : RnSl w A B Aq As n l Pl M bg Q Z) (hb : Below w.heap.size w w') : RnSl w' A B Aq As n l Pl M bg Q Z := ⟨h.ch.below hb, h.q.below hb, h.z.below hb, h.ok, h.hl⟩
/-- The cells that a stop looks at. -/
theorem RnSl.at {w : World} {A B Aq As : Option Addr} {n l : Nat} {Pl : List ByteArray} {M : List (List Int)} {bg : Int} {Q Z : List Int} (h : RnSl w A B Aq As n l Pl M bg Q Z) {k : Nat} (hk : k < l) : ∃ mb mo qb qo sb so rb ro cr p p' m sv, B = some ⟨mb, mo, none⟩ ∧ Aq = some ⟨qb, qo, none⟩ ∧ As = some ⟨sb, so, none⟩ ∧ mb < w.heap.size ∧ qb < w.heap.size ∧ sb < w.heap.size ∧ rb < w.heap.size ∧ p < n ∧ p' < n ∧ 0 ≤ sv ∧ sv ≤ 10000 ∧ -1 ≤ m ∧ m ≤ 10000 ∧
    w.cell? ⟨qb, qo + k, none⟩ = some (.int .i64 (p : Nat)) ∧ w.cell? ⟨sb, so + k, none⟩ = some (.int .i64 sv) ∧ w.cell? ⟨qb, qo + (k - 1), none⟩ = some (.int .i64 (p' : Nat)) ∧ w.cell? ⟨mb, mo + p', none⟩ = some (.slice (some ⟨rb, ro, none⟩) n cr) ∧ w.cell? ⟨rb, ro + p, none⟩ = some (.int .i64 m) ∧ (0 < k → m ≠ -1) ∧ Z.getD k 0 = sv ∧ (0 < k → arrv M bg Q Z k = leav M bg Q Z (k - 1) + m) := by
  have hkQ : k < Q.length := by rw [← h.hl]; exact hk
  obtain ⟨qb, qo, rfl, lq, cq⟩ := sl_at h.q hkQ
  obtain ⟨sb, so, rfl, ls, cs⟩ := sl_at h.z (i := k) (by rw [h.ok.ls]; exact hkQ)
  obtain ⟨p, hp, e1⟩ := h.ok.q k hkQ
  obtain ⟨p', hp', e2⟩ := h.ok.q (k - 1) (by omega)
  obtain ⟨mb, mo, C, cr, rfl, lm, c1, csp, lr, c2⟩ := h.ch.at hp'
  obtain ⟨rb, ro, sp⟩ := C
  dsimp only at csp lr c2
  subst csp
  have hb := h.ch.ok.bnd p' p (by rw [← h.ch.hn]; exact hp') (by rw [← h.ch.hn]; exact hp)
  have hs := h.ok.s k hkQ
  refine ⟨mb, mo, qb, qo, sb, so, rb, ro, cr, p, p', mAt M p' p, Z.getD k 0, rfl, rfl, rfl, lm, lq, ls, lr, hp, hp', hs.1, hs.2, hb.1, hb.2, by rw [cq k hkQ, e1], cs k (by rw [h.ok.ls]; exact hkQ), by rw [cq (k - 1) (by omega), e2], c1, c2 p hp, fun hk0 => ?_, rfl, fun hk0 => ?_⟩
  · have := h.ok.gap (k - 1) (by omega)
    rw [show k - 1 + 1 = k by omega, e1, e2] at this
    exact this
  · obtain ⟨j, rfl⟩ : ∃ j, k = j + 1 := ⟨k - 1, by omega⟩
    rw [show j + 1 - 1 = j by omega] at e2 ⊢
    show arrv M bg Q Z j + Z.getD j 0 + mAt M (Q.getD j 0).toNat (Q.getD (j + 1) 0).toNat = _
    rw [e1, e2]; rfl
theorem stop_any (A B Aq As : Option Addr) (n ca cb l cq cs k : Nat) (Pl : List ByteArray) (M : List (List Int)) (bg : Int) (Q Z : List Int) (w : World) (hl : n ≤ 12) (HR : Hid (RnSl w A B Aq As n l Pl M bg Q Z)) (hk : k < l) :
    Calls Tryz.prog 132 #[.agg #[.slice A n ca, .slice B n cb], .agg #[.int .i64 bg, .slice Aq l cq, .slice As l cs], .int .i64 k] w fun e w' => e = .returned (.int .i64 0) ∧ Below w.heap.size w w' := by
  have hl12 : l ≤ 12 := by have := HR.out.ok.l12; have := HR.out.hl; omega
  obtain ⟨mb, mo, qb, qo, sb, so, rb, ro, cr, p, p', m, sv, rfl, rfl, rfl, lm, lq, ls, lr, hp, hp', s0, s1, m0, m1, d0, d1, d2, d3, d4, hm, _, _⟩ := HR.out.at hk
  by_cases hk0 : k = 0
  · subst hk0
    exact stop_first A n ca cb mb mo qb qo sb so l cq cs p bg sv w hl hk hp s0 s1 lm lq ls rb lr d0 d1
  · exact stop_next A n ca cb mb mo qb qo sb so l cq cs p p' rb ro cr k bg sv m w hl hl12 (by omega) hk hp hp' s0 s1 (Lib.hid (hm (by omega))) lm lq ls lr d0 d1 d2 d3 d4
def BelS (w x : World) : Prop := Below w.heap.size w x
/-- The boxes of a chart and a run, and what was there before. -/
structure RnU (w : World) (A B Aq As : Option Addr) (n ca cb l cq cs : Nat) (bg : Int) (bc br : Nat) (u : World) : Prop where
  c0 : u.cell? ⟨bc, 0, none⟩ = some (.slice A n ca)
  c1 : u.cell? ⟨bc, 1, none⟩ = some (.slice B n cb)
  r0 : u.cell? ⟨br, 0, none⟩ = some (.int .i64 bg)
  r1 : u.cell? ⟨br, 1, none⟩ = some (.slice Aq l cq)
  r2 : u.cell? ⟨br, 2, none⟩ = some (.slice As l cs)
  lc : bc < u.heap.size
  lr : br < u.heap.size
  be : Below w.heap.size w u
theorem RnU.step {w u u' : World} {A B Aq As : Option Addr} {n ca cb l cq cs : Nat} {bg : Int} {bc br : Nat} (h : RnU w A B Aq As n ca cb l cq cs bg bc br u) (hb : Below u.heap.size u u') : RnU w A B Aq As n ca cb l cq cs bg bc br u' :=
  ⟨(hb.cell (p := ⟨bc, 0, none⟩) h.lc).trans h.c0, (hb.cell (p := ⟨bc, 1, none⟩) h.lc).trans h.c1, (hb.cell (p := ⟨br, 0, none⟩) h.lr).trans h.r0, (hb.cell (p := ⟨br, 1, none⟩) h.lr).trans h.r1, (hb.cell (p := ⟨br, 2, none⟩) h.lr).trans h.r2, Nat.lt_of_lt_of_le h.lc hb.size, Nat.lt_of_lt_of_le h.lr hb.size, h.be.trans (hb.mono h.be.size)⟩
theorem RnU.boxes (w : World) (A B Aq As : Option Addr) (n ca cb l cq cs : Nat) (bg : Int) : RnU w A B Aq As n ca cb l cq cs bg w.heap.size (w.heap.size + 1) ((w.alloc (.cells #[.slice A n ca, .slice B n cb] 78)).alloc (.cells #[.int .i64 bg, .slice Aq l cq, .slice As l cs] 92)) :=
  ⟨by simp [go_sem, World.cell?_alloc_past], by simp [go_sem, World.cell?_alloc_past], by simp [go_sem], by simp [go_sem], by simp [go_sem], by simp; omega, by simp, (by (repeat (first | (with_reducible refine Below.drew ?_) | (with_reducible refine below_drewN ?_ _) | (with_reducible refine Below.alloc ?_ (by first | omega | (simp; done) | (simp; omega) | (simp at *; omega)) _) | (with_reducible refine Below.setCell ?_ (by first | omega | (simp; done) | (simp; omega) | (simp at *; omega)) _) | (with_reducible exact Below.refl _ _) | (with_reducible assumption) | (with_reducible refine Below.trans ?_ (Below.mono (by assumption) (by first | omega | (simp; done) | (simp; omega) | (simp at *; omega)))))))⟩
set_option maxRecDepth 100000 in
set_option maxHeartbeats 1000000 in
theorem checkRun_ok (A B Aq As : Option Addr) (n ca cb l cq cs : Nat) (Pl : List ByteArray) (M : List (List Int)) (bg : Int) (Q Z : List Int) (w : World) (hl : n ≤ 12) (HR : Hid (RnSl w A B Aq As n l Pl M bg Q Z)) :
    Calls Tryz.prog 101 #[.agg #[.slice A n ca, .slice B n cb], .agg #[.int .i64 bg, .slice Aq l cq, .slice As l cs]] w fun e w' => e = .returned (.int .i64 0) ∧ Below w.heap.size w w' := by
  have hl12 : l ≤ 12 := by have := HR.out.ok.l12; have := HR.out.hl; omega
  have hl0 : 0 < l := by have := HR.out.ok.l0; have := HR.out.hl; omega
  have i0 : ((l : Int) == 0) = false := by simp; omega
  have i1 : ¬ (12 : Int) < (l : Int) := by omega
  have hr : rngE bg 0 1000000 = 0 := rngE_t (inB_true HR.out.ok.b0 HR.out.ok.b1)
  go_enter Tryz.func101, Tryz.ntmps101
  go_upto_region 1 with (fail)
  refine wp_world (RnU w A B Aq As n ca cb l cq cs bg w.heap.size (w.heap.size + 1)) (RnU.boxes w A B Aq As n ca cb l cq cs bg) (fun u hu => ?_)
  have HU := Lib.hid hu
  obtain ⟨c0, c1, r0, r1, r2, lc, lr, be⟩ := hu
  have HRU := Lib.hid (HR.out.below be)
  have HBE := Lib.hid be
  clear be HR
  generalize w.heap.size + 1 = br at *
  have HBE2 : Hid (∀ x, Below u.heap.size u x → BelS w x) := Lib.hid fun x hx => HBE.out.trans (hx.mono HBE.out.size)
  generalize w.heap.size = bc at *
  go_wp2_with ((go_at_call 77; ((with_reducible refine (checkMinute_any _ _).mono ?_)); rintro e w' ⟨rfl, rfl⟩))
  go_loopw [36] (fun i wr => ∃ k : Nat, k ≤ l ∧ i = .int .i64 k ∧ Below u.heap.size u wr) (fun i _ => l - (intOf i).toNat)
  case atStart => exact ⟨0, by omega, rfl, Below.refl _ _⟩
  case round =>
    clear c0 c1 r0 r1 r2
    obtain ⟨k, hk, rfl, hB⟩ := hrel
    by_cases hkl : k < l
    · have kl : (k : Int) < (l : Int) := by omega
      obtain ⟨c0, c1, r0, r1, r2, _, _, _⟩ := HU.out.step hB
      have HRW := Lib.hid (HRU.out.below hB)
      go_wp2_with fail
      refine (stop_any A B Aq As n ca cb l cq cs k Pl M bg Q Z _ hl HRW hkl).mono ?_
      rintro e w1 ⟨rfl, hb1⟩
      have hB1 : Below u.heap.size u w1 := hB.trans (hb1.mono hB.size)
      clear hb1
      go_wp2
      go_roundw
      case rel => exact ⟨k + 1, by omega, by go_num, hB1⟩
      case measure => (simp [intOf]) <;> omega
    · go_wp2
      go_ret
      exact ⟨rfl, HBE2.out _ hB⟩
theorem infoPr : (Tryz.prog.info? 79).map (fun i => (i.zero, i.size, i.bytes)) = some (some (.agg #[.int .i64 0, .int .i64 0]), 2, 16) := by kernel_rfl
/-- The times of a run. -/
def TmsP (L : List (Int × Int)) (l : Nat) (w : World) (e : Ending) (w' : World) : Prop := ∃ g cap, e = .returned (.slice (some ⟨g, 0, none⟩) l cap) ∧ g < w'.heap.size ∧ RowsAt prV 2 w' g 0 L ∧ Below w.heap.size w w'
theorem pr_at {w : World} {b off : Nat} {L : List (Int × Int)} (h : RowsAt prV 2 w b off L) {k : Nat} (hk : k < L.length) : w.cell? ⟨b, off + k * 2, none⟩ = some (.int .i64 L[k].1) ∧ w.cell? ⟨b, off + k * 2 + 1, none⟩ = some (.int .i64 L[k].2) := ⟨h k hk 0 (by omega), h k hk 1 (by omega)⟩
set_option maxRecDepth 100000 in
set_option maxHeartbeats 4000000 in
theorem timesOf_is (A B Aq As : Option Addr) (n ca cb l cq cs : Nat) (Pl : List ByteArray) (M : List (List Int)) (bg : Int) (Q Z : List Int) (w : World) (hl : n ≤ 12) (HR : Hid (RnSl w A B Aq As n l Pl M bg Q Z)) :
    Calls Tryz.prog 102 #[.agg #[.slice A n ca, .slice B n cb], .agg #[.int .i64 bg, .slice Aq l cq, .slice As l cs]] w (TmsP (tmsL M bg Q Z l) l w) := by
  have hl12 : l ≤ 12 := by have := HR.out.ok.l12; have := HR.out.hl; omega
  have hl0 : 0 < l := by have := HR.out.ok.l0; have := HR.out.hl; omega
  obtain ⟨i0, hi, hz0, hz1, hz2⟩ := info_partsS infoPr
  have HI := Lib.hid hi
  have HZ0 := Lib.hid hz0
  have HZ1 := Lib.hid hz1
  have HZ2 := Lib.hid hz2
  clear hi hz0 hz1 hz2
  have HAB : Hid (∀ k, k < l → 0 ≤ arrv M bg Q Z k ∧ arrv M bg Q Z k ≤ 1000000 + 20000 * (k : Int)) := Lib.hid fun k hk => arrv_B HR.out.ch.ok HR.out.ch.hn HR.out.ok k (by rw [← HR.out.hl]; exact hk)
  go_enter Tryz.func102, Tryz.ntmps102
  go_upto_region 1 with (fail)
  refine wp_world (RnU w A B Aq As n ca cb l cq cs bg w.heap.size (w.heap.size + 1)) (RnU.boxes w A B Aq As n ca cb l cq cs bg) (fun u hu => ?_)
  have HU := Lib.hid hu
  obtain ⟨c0, c1, r0, r1, r2, lc, lr, be⟩ := hu
  have HRU := Lib.hid (HR.out.below be)
  have HBE := Lib.hid be
  clear be HR
  generalize w.heap.size + 1 = br at *
  have HBE2 : Hid (∀ x, Below u.heap.size u x → BelS w x) := Lib.hid fun x hx => HBE.out.trans (hx.mono HBE.out.size)
  generalize w.heap.size = bc at *
  go_wp2
  go_loopw [5, 6, 14] (fun t a i wr => ∃ (k : Nat) (G : Option Addr) (cg : Nat) (av : Int), i = .int .i64 k ∧ k ≤ l ∧ t = .slice G k cg ∧ a = .int .i64 av ∧ (k = 0 → av = bg) ∧ Hid (wr.ownsRow u.heap.size 79 2 (.slice G k cg) k (rowsV prV (tmsL M bg Q Z k))) ∧ Below u.heap.size u wr) (fun _ _ i _ => l - (intOf i).toNat)
  case atStart => exact ⟨0, none, 0, bg, rfl, by omega, rfl, rfl, fun _ => rfl, Lib.hid ⟨rfl, .inl ⟨rfl, rfl⟩⟩, Below.refl _ _⟩
  case round =>
    clear c0 c1 r0 r1 r2
    obtain ⟨k, G, cg, av, rfl, hk, rfl, rfl, hav, HO, hB⟩ := hrel
    have hsz := hB.size
    by_cases hkl : k < l
    · have kl : (k : Int) < (l : Int) := by omega
      obtain ⟨c0, c1, r0, r1, r2, _, _, _⟩ := HU.out.step hB
      have lcw : bc < wr.heap.size := by omega
      have lrw : br < wr.heap.size := by omega
      obtain ⟨mb, mo, qb, qo, sb, so, rb, ro, cr, p, p', m, sv, rfl, rfl, rfl, lm, lq, ls, lr2, hp, hp', s0, s1, m0, m1, d0, d1, d2, d3, d4, hm, hsv, har⟩ := (HRU.out.below hB).at hkl
      have pn : (p : Int) < (n : Int) := by omega
      have pn' : (p' : Int) < (n : Int) := by omega
      have hbk := HAB.out k hkl
      by_cases hk0 : k = 0
      · subst hk0
        obtain rfl : av = bg := hav rfl
        have HA : Hid (arrv M av Q Z 0 = av) := Lib.hid rfl
        have HL : Hid (leav M av Q Z 0 = av + sv) := Lib.hid (by unfold leav; rw [HA.out, hsv])
        rw [HA.out] at hbk
        obtain ⟨hb0, hb1⟩ := hbk
        have w4 : IntKind.i64.wrap (av + sv) = av + sv := IntWalk.i64_in _ (by omega)
        rw [Nat.add_zero] at d0 d1
        clear d2 d3 d4 hm hsv har hav
        go_wp2_with (at_builtin; refine wpList_append_own_at _ rfl _ _ 95 rfl u.heap.size 79 i0 (.agg #[.int .i64 0, .int .i64 0]) 2 16 Tryz.underlying95 HI.out HZ0.out HZ1.out HZ2.out rfl (by decide) _ _ _ rfl (own_below (N := wr.heap.size) HO.out (by exact (by (repeat (first | (with_reducible refine Below.drew ?_) | (with_reducible refine below_drewN ?_ _) | (with_reducible refine Below.alloc ?_ (by first | omega | (simp; done) | (simp; omega) | (simp at *; omega)) _) | (with_reducible refine Below.setCell ?_ (by first | omega | (simp; done) | (simp; omega) | (simp at *; omega)) _) | (with_reducible exact Below.refl _ _) | (with_reducible assumption) | (with_reducible refine Below.trans ?_ (Below.mono (by assumption) (by first | omega | (simp; done) | (simp; omega) | (simp at *; omega)))))))) (Nat.le_refl _)) ⟨wr.heap.size, 0, none⟩ 1 1 [.int .i64 av, .int .i64 (av + sv)] rfl rfl ?b0 ?b1 ?b2 ?b3 ?b4 ?_)
        case b0 =>
          intro j v hj
          match j, hj with
          | 0, hj => simp at hj; subst hj; simp [Addr.add, go_sem]
          | 1, hj => simp at hj; subst hj; simp [Addr.add, go_sem]
        case b1 => first | exact ⟨rfl, rfl⟩ | (intro v hv; simp at hv; rcases hv with rfl | rfl <;> rfl)
        case b2 => unfold maxLen; omega
        case b3 => omega
        case b4 => first | omega | (simp; omega)
        intro v' x5 hown hgrow hnn hblk
        have hB5 : Below u.heap.size u x5 := Below.grown (by exact (by (repeat (first | (with_reducible refine Below.drew ?_) | (with_reducible refine below_drewN ?_ _) | (with_reducible refine Below.alloc ?_ (by first | omega | (simp; done) | (simp; omega) | (simp at *; omega)) _) | (with_reducible refine Below.setCell ?_ (by first | omega | (simp; done) | (simp; omega) | (simp at *; omega)) _) | (with_reducible exact Below.refl _ _) | (with_reducible assumption) | (with_reducible refine Below.trans ?_ (Below.mono (by assumption) (by first | omega | (simp; done) | (simp; omega) | (simp at *; omega)))))))) hgrow (by simp; omega) (fun r hr => (own_block HO.out r hr).1)
        have hown2 : x5.ownsRow u.heap.size 79 2 v' (tmsL M av Q Z (0 + 1)).length (rowsV prV (tmsL M av Q Z (0 + 1))) := by rw [tmsL_succ, rowsV_app, List.length_append, tmsL_len]; rw [HA.out, HL.out]; exact hown
        obtain ⟨g5, cap5, hv5, hg5, hl5, hr5⟩ := own_rows (f := prV) (n := 2) (fun _ => rfl) hown2 (by rw [tmsL_succ]; simp)
        rw [tmsL_len] at hv5 hown2
        subst hv5
        have HO5 := Lib.hid hown2
        clear hown hown2 hgrow hnn hblk hg5 hl5 hr5
        go_wp2
        go_roundw
        case rel => exact ⟨0 + 1, some ⟨g5, 0, none⟩, cap5, _, by first | rfl | go_num, by omega, rfl, rfl, fun h => by omega, HO5, hB5⟩
        case measure => (simp [intOf]) <;> omega
      · have hk1 : 0 < k := by omega
        have hb' := HAB.out (k - 1) (by omega)
        obtain ⟨lv, hlv⟩ : ∃ lv, Hid (leav M bg Q Z (k - 1) = lv) := ⟨_, Lib.hid rfl⟩
        have hark := har hk1
        rw [hlv.out] at hark
        have HA : Hid (arrv M bg Q Z k = lv + m) := Lib.hid hark
        have HL : Hid (leav M bg Q Z k = lv + m + sv) := Lib.hid (by unfold leav; rw [HA.out, hsv])
        rw [hark] at hbk
        obtain ⟨hb0, hb1⟩ := hbk
        have w3 : IntKind.i64.wrap (lv + m) = lv + m := IntWalk.i64_in _ (by omega)
        have w4 : IntKind.i64.wrap (lv + m + sv) = lv + m + sv := IntWalk.i64_in _ (by omega)
        have w2 : IntKind.i64.wrap ((k : Int) - 1) = (k : Int) - 1 := IntWalk.i64_in _ (by omega)
        have j2 : (0 : Int) ≤ (k : Int) - 1 := by omega
        have j2' : (1 : Int) ≤ (k : Int) := by omega
        have j3 : ((k : Int) - 1).toNat = k - 1 := by omega
        have j4 : (k : Int) - 1 < (k : Int) := by omega
        have j5 : (k : Int) - 1 < (l : Int) := by omega
        have kp : (0 : Int) < (k : Int) := by omega
        have howns : wr.ownsRow u.heap.size 79 2 (.slice G k cg) (tmsL M bg Q Z k).length (rowsV prV (tmsL M bg Q Z k)) := by rw [tmsL_len]; exact HO.out
        obtain ⟨g, cg', hvv, hgb, hgl, hgr⟩ := own_rows (f := prV) (n := 2) (fun _ => rfl) howns (by intro h; have := congrArg List.length h; rw [tmsL_len] at this; simp at this; omega)
        rw [tmsL_len] at hvv
        injection hvv with v1 v2 v3
        subst v1 v3
        have dg := (pr_at hgr (k := k - 1) (by rw [tmsL_len]; omega)).2
        rw [show (tmsL M bg Q Z k)[k - 1]'(by rw [tmsL_len]; omega) = (arrv M bg Q Z (k - 1), leav M bg Q Z (k - 1)) by simp [tmsL], Nat.zero_add] at dg
        dsimp only at dg
        rw [hlv.out] at dg
        clear hav hm hsv har hark hgr howns hb'
        go_upto_region 7 with (fail)
        refine wp_region_held_drew (S := (fun w' => w'.cell? ⟨bc, 1, none⟩ = some (.slice (some ⟨mb, mo, none⟩) n cb) ∧ w'.cell? ⟨br, 1, none⟩ = some (.slice (some ⟨qb, qo, none⟩) l cq) ∧ w'.cell? ⟨g, (k - 1) * 2 + 1, none⟩ = some (.int .i64 lv) ∧ w'.cell? ⟨qb, qo + (k - 1), none⟩ = some (.int .i64 p') ∧ w'.cell? ⟨mb, mo + p', none⟩ = some (.slice (some ⟨rb, ro, none⟩) n cr) ∧ w'.cell? ⟨rb, ro + p, none⟩ = some (.int .i64 m))) (by kernel_rfl) (by simp [go_sem, World.cell?_alloc_past, *]) (fun hHeld => ?_)
        refine tkH 0 ⟨some 21, _, _, _, _, _⟩ ?_ rfl ?_ (by assumption) ?_
        rotate_left
        · (intro w hSw; (try dsimp only at hSw); go_simp; all_goals with_reducible rfl)
        try simp only [Act.put, sA, sB, sC]
        refine tkH 1 ⟨some 22, _, _, _, _, _⟩ ?_ rfl ?_ (by assumption) ?_
        rotate_left
        · (intro w hSw; (try dsimp only at hSw); go_simp; all_goals with_reducible rfl)
        try simp only [Act.put, sA, sB, sC]
        refine tkH 2 ⟨some 23, _, _, _, _, _⟩ ?_ rfl ?_ (by assumption) ?_
        rotate_left
        · (intro w hSw; (try dsimp only at hSw); go_simp; all_goals with_reducible rfl)
        try simp only [Act.put, sA, sB, sC]
        refine tkH 3 ⟨some 24, _, _, _, _, _⟩ ?_ rfl ?_ (by assumption) ?_
        rotate_left
        · (intro w hSw; (try dsimp only at hSw); go_simp; all_goals with_reducible rfl)
        try simp only [Act.put, sA, sB, sC]
        refine tkH 4 ⟨some 25, _, _, _, _, _⟩ ?_ rfl ?_ (by assumption) ?_
        rotate_left
        · (intro w hSw; (try dsimp only at hSw); go_simp; all_goals with_reducible rfl)
        try simp only [Act.put, sA, sB, sC]
        refine tkH 5 ⟨some 26, _, _, _, _, _⟩ ?_ rfl ?_ (by assumption) ?_
        rotate_left
        · (intro w hSw; (try dsimp only at hSw); go_simp; all_goals with_reducible rfl)
        try simp only [Act.put, sA, sB, sC]
        refine tkH 6 ⟨some 27, _, _, _, _, _⟩ ?_ rfl ?_ (by assumption) ?_
        rotate_left
        · (intro w hSw; (try dsimp only at hSw); go_simp; all_goals with_reducible rfl)
        try simp only [Act.put, sA, sB, sC]
        refine tkH 7 ⟨some 28, _, _, _, _, _⟩ ?_ rfl ?_ (by assumption) ?_
        rotate_left
        · (intro w hSw; (try dsimp only at hSw); go_simp; all_goals with_reducible rfl)
        try simp only [Act.put, sA, sB, sC]
        refine tkH 8 ⟨some 29, _, _, _, _, _⟩ ?_ rfl ?_ (by assumption) ?_
        rotate_left
        · (intro w hSw; (try dsimp only at hSw); go_simp; all_goals with_reducible rfl)
        try simp only [Act.put, sA, sB, sC]
        refine tkH 9 ⟨some 30, _, _, _, _, _⟩ ?_ rfl ?_ (by assumption) ?_
        rotate_left
        · (intro w hSw; (try dsimp only at hSw); go_simp; all_goals with_reducible rfl)
        try simp only [Act.put, sA, sB, sC]
        refine tkH 10 ⟨some 31, _, _, _, _, _⟩ ?_ rfl ?_ (by assumption) ?_
        rotate_left
        · (intro w hSw; (try dsimp only at hSw); go_simp; all_goals with_reducible rfl)
        try simp only [Act.put, sA, sB, sC]
        refine tkH 11 ⟨some 32, _, _, _, _, _⟩ ?_ rfl ?_ (by assumption) ?_
        rotate_left
        · (intro w hSw; (try dsimp only at hSw); go_simp; all_goals with_reducible rfl)
        try simp only [Act.put, sA, sB, sC]
        refine tkH 12 ⟨some 33, _, _, _, _, _⟩ ?_ rfl ?_ (by assumption) ?_
        rotate_left
        · (intro w hSw; (try dsimp only at hSw); go_simp; all_goals with_reducible rfl)
        try simp only [Act.put, sA, sB, sC]
        refine tkH 13 ⟨some 34, _, _, _, _, _⟩ ?_ rfl ?_ (by assumption) ?_
        rotate_left
        · (intro w hSw; (try dsimp only at hSw); go_simp; all_goals with_reducible rfl)
        try simp only [Act.put, sA, sB, sC]
        refine tkH 14 ⟨some 35, _, _, _, _, _⟩ ?_ rfl ?_ (by assumption) ?_
        rotate_left
        · (intro w hSw; (try dsimp only at hSw); go_simp; all_goals with_reducible rfl)
        try simp only [Act.put, sA, sB, sC]
        refine tkH 15 ⟨some 36, _, _, _, _, _⟩ ?_ rfl ?_ (by assumption) ?_
        rotate_left
        · (intro w hSw; (try dsimp only at hSw); go_simp; all_goals with_reducible rfl)
        try simp only [Act.put, sA, sB, sC]
        refine tkH 16 ⟨some 37, _, _, _, _, _⟩ ?_ rfl ?_ (by assumption) ?_
        rotate_left
        · (intro w hSw; (try dsimp only at hSw); go_simp; all_goals with_reducible rfl)
        try simp only [Act.put, sA, sB, sC]
        refine tkH 17 ⟨some 38, _, _, _, _, _⟩ ?_ rfl ?_ (by assumption) ?_
        rotate_left
        · (intro w hSw; (try dsimp only at hSw); go_simp; all_goals with_reducible rfl)
        try simp only [Act.put, sA, sB, sC]
        refine tkH 18 ⟨some 39, _, _, _, _, _⟩ ?_ rfl ?_ (by assumption) ?_
        rotate_left
        · (intro w hSw; (try dsimp only at hSw); go_simp; all_goals with_reducible rfl)
        try simp only [Act.put, sA, sB, sC]
        refine tkH 19 ⟨some 40, _, _, _, _, _⟩ ?_ rfl ?_ (by assumption) ?_
        rotate_left
        · (intro w hSw; (try dsimp only at hSw); go_simp; all_goals with_reducible rfl)
        try simp only [Act.put, sA, sB, sC]
        refine tkH 20 ⟨some 6, _, _, _, _, _⟩ ?_ rfl ?_ (by assumption) ?_
        rotate_left
        · (intro w hSw; (try dsimp only at hSw); go_simp; all_goals with_reducible rfl)
        try simp only [Act.put, sA, sB, sC]
        refine wpAnyH_done (by kernel_rfl) ?_ _
        go_wp2_with (at_builtin; refine wpList_append_own_at _ rfl _ _ 95 rfl u.heap.size 79 i0 (.agg #[.int .i64 0, .int .i64 0]) 2 16 Tryz.underlying95 HI.out HZ0.out HZ1.out HZ2.out rfl (by decide) _ _ _ rfl (own_below (N := wr.heap.size) HO.out (by exact (by (repeat (first | (with_reducible refine Below.drew ?_) | (with_reducible refine below_drewN ?_ _) | (with_reducible refine Below.alloc ?_ (by first | omega | (simp; done) | (simp; omega) | (simp at *; omega)) _) | (with_reducible refine Below.setCell ?_ (by first | omega | (simp; done) | (simp; omega) | (simp at *; omega)) _) | (with_reducible exact Below.refl _ _) | (with_reducible assumption) | (with_reducible refine Below.trans ?_ (Below.mono (by assumption) (by first | omega | (simp; done) | (simp; omega) | (simp at *; omega)))))))) (Nat.le_refl _)) ⟨wr.heap.size, 0, none⟩ 1 1 [.int .i64 (lv + m), .int .i64 (lv + m + sv)] rfl rfl ?a0 ?a1 ?a2 ?a3 ?a4 ?_)
        case a1 => first | exact ⟨rfl, rfl⟩ | (intro v hv; simp at hv; rcases hv with rfl | rfl <;> rfl)
        case a2 => unfold maxLen; omega
        case a3 => omega
        case a4 => first | omega | (simp; omega)
        intro v' x5 hown hgrow hnn hblk
        have hB5 : Below u.heap.size u x5 := Below.grown (by exact (by (repeat (first | (with_reducible refine Below.drew ?_) | (with_reducible refine below_drewN ?_ _) | (with_reducible refine Below.alloc ?_ (by first | omega | (simp; done) | (simp; omega) | (simp at *; omega)) _) | (with_reducible refine Below.setCell ?_ (by first | omega | (simp; done) | (simp; omega) | (simp at *; omega)) _) | (with_reducible exact Below.refl _ _) | (with_reducible assumption) | (with_reducible refine Below.trans ?_ (Below.mono (by assumption) (by first | omega | (simp; done) | (simp; omega) | (simp at *; omega)))))))) hgrow (by simp; omega) (fun r hr => (own_block HO.out r hr).1)
        have hown2 : x5.ownsRow u.heap.size 79 2 v' (tmsL M bg Q Z (k + 1)).length (rowsV prV (tmsL M bg Q Z (k + 1))) := by rw [tmsL_succ, rowsV_app, List.length_append, tmsL_len]; rw [HA.out, HL.out]; exact hown
        obtain ⟨g5, cap5, hv5, hg5, hl5, hr5⟩ := own_rows (f := prV) (n := 2) (fun _ => rfl) hown2 (by rw [tmsL_succ]; simp)
        rw [tmsL_len] at hv5 hown2
        subst hv5
        have HO5 := Lib.hid hown2
        clear hown hown2 hgrow hnn hblk hg5 hl5 hr5
        go_wp2
        go_roundw
        case rel => exact ⟨k + 1, some ⟨g5, 0, none⟩, cap5, _, by go_num, by omega, rfl, rfl, fun h => by omega, HO5, hB5⟩
        case measure => (simp [intOf]) <;> omega
    · have hkk : k = l := by omega
      have HO2 : Hid (wr.ownsRow u.heap.size 79 2 (.slice G l cg) (tmsL M bg Q Z l).length (rowsV prV (tmsL M bg Q Z l))) := Lib.hid (by rw [tmsL_len]; have h := HO.out; rw [hkk] at h; exact h)
      obtain ⟨g, cg', hvv, hgb, hgl, hgr⟩ := own_rows (f := prV) (n := 2) (fun _ => rfl) HO2.out (by intro h; have := congrArg List.length h; rw [tmsL_len] at this; simp at this; omega)
      rw [tmsL_len] at hvv
      injection hvv with v1 v2 v3
      subst v1 v3
      have HG := Lib.hid hgr
      have HK : Hid (k = l) := Lib.hid hkk
      clear hgr hkk hav
      go_wp2
      go_ret
      exact ⟨g, cg, by rw [HK.out]; rfl, hgl, HG.out, HBE2.out _ hB⟩
end Go.Proofs.YtojaompfffpofaaGreat
