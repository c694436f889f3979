import Derived.Test.YtgidmmmdpmophaaRSFEPts
import Derived.Outline
namespace Go.Proofs.Ytgidmmmdpmophaa
open Go.ChangeShapes Go.WideShapes Go.ChangeAt Go.RowKit
set_option linter.unusedVariables false
set_option linter.unusedSimpArgs false
attribute [local go_sem ↓] Go.wp_at_zero Go.wp_at_succ
def FolPost (nm : ByteArray) (s : Int) (A : Option Addr) (gn gc : Nat) (B : Option Addr) (dn dc : Nat) (D : List Le) (E : Int) (w : World) (e : Ending) (w' : World) : Prop :=
  (¬ E = 0 ∧ e = .returned (.tuple #[.agg #[.string ⟨#[]⟩, .int .i64 0, .slice none 0 0, .slice none 0 0, .slice none 0 0, .int .i64 0], .int .i64 E]) ∧ Below w.heap.size w w') ∨
  (E = 0 ∧ ∃ P pc E9, e = .returned (.tuple #[.agg #[.string nm, .int .i64 s, .slice A gn gc, .slice B dn dc, .slice P (dn + 1) pc, .int .i64 E9], .int .i64 0]) ∧ SlRows ptV 2 w' P (ptL D (dn + 1)) ∧ secT D dn = E9 ∧ Below w.heap.size w w')
set_option maxRecDepth 100000 in
set_option maxHeartbeats 4000000 in
theorem follow_any (nm : ByteArray) (s : Int) (G : List Ga) (D : List Le) (A B : Option Addr) (gn gc dn dc N : Nat) (E : Int) (w : World) (hz : nm.size ≤ 9223372036854775807) (hgn : Hid (gn = G.length)) (hgl : gn ≤ 9223372036854775807) (hdn : Hid (dn = D.length)) (hdl : dn ≤ 9223372036854775807) (hG : Hid (SlRows gaV 2 w A G)) (hD : Hid (SlRows leV 3 w B D)) (hE : Hid (plnP nm s G D = (N, E))) :
    Calls Try.prog 26 #[.agg #[.string nm, .int .i64 s, .slice A gn gc, .slice B dn dc]] w (FolPost nm s A gn gc B dn dc D E w) := by
  go_enter Try.func26, Try.ntmps26
  go_wp2_with fail
  refine (PointsOf_any nm s G D A B gn gc dn dc N E _ hz hgn hgl hdn hdl (Lib.hid (hG.out.below (by (repeat (first | (with_reducible refine Below.drew ?_) | (with_reducible refine below_drewN ?_ _) | (with_reducible refine Below.alloc ?_ (by first | omega | (simp; done) | (simp; omega) | (simp at *; omega)) _) | (with_reducible refine Below.setCell ?_ (by first | omega | (simp; done) | (simp; omega) | (simp at *; omega)) _) | (with_reducible exact Below.refl _ _) | (with_reducible assumption) | (with_reducible refine Below.trans ?_ (Below.mono (by assumption) (by first | omega | (simp; done) | (simp; omega) | (simp at *; omega))))))))) (Lib.hid (hD.out.below (by (repeat (first | (with_reducible refine Below.drew ?_) | (with_reducible refine below_drewN ?_ _) | (with_reducible refine Below.alloc ?_ (by first | omega | (simp; done) | (simp; omega) | (simp at *; omega)) _) | (with_reducible refine Below.setCell ?_ (by first | omega | (simp; done) | (simp; omega) | (simp at *; omega)) _) | (with_reducible exact Below.refl _ _) | (with_reducible assumption) | (with_reducible refine Below.trans ?_ (Below.mono (by assumption) (by first | omega | (simp; done) | (simp; omega) | (simp at *; omega))))))))) hE).mono ?_
  rintro e x1 h
  have Z6 := BlkF.made (B := w.heap.size) (w.alloc (.cells #[.string nm, .int .i64 s, .slice A gn gc, .slice B dn dc] 25)) [.string ⟨#[]⟩, .int .i64 0, .slice none 0 0, .slice none 0 0, .slice none 0 0, .int .i64 0] 67 (by simp)
  have Z4 := (BlkF.made (B := w.heap.size) w [.string nm, .int .i64 s, .slice A gn gc, .slice B dn dc] 25 (Nat.le_refl _)).below (Below.alloc (Below.refl _ _) (Nat.le_refl _) (.cells #[.string ⟨#[]⟩, .int .i64 0, .slice none 0 0, .slice none 0 0, .slice none 0 0, .int .i64 0] 67))
  obtain ⟨rb, hrb⟩ : ∃ b, (w.alloc (.cells #[.string nm, .int .i64 s, .slice A gn gc, .slice B dn dc] 25)).heap.size = b := ⟨_, rfl⟩
  have hrb2 : w.heap.size + 1 = rb := by rw [← hrb]; simp
  rw [hrb] at Z6
  rcases h with ⟨hE0, rfl, hb1⟩ | ⟨rfl, P, pc, rfl, hP, hge, hb1⟩
  · have hE1 : (E != 0) = true := by simpa using hE0
    have Y6 := Z6.below hb1
    have hB1 : Below w.heap.size w x1 := (by (repeat (first | (with_reducible refine Below.drew ?_) | (with_reducible refine below_drewN ?_ _) | (with_reducible refine Below.alloc ?_ (by first | omega | (simp; done) | (simp; omega) | (simp at *; omega)) _) | (with_reducible refine Below.setCell ?_ (by first | omega | (simp; done) | (simp; omega) | (simp at *; omega)) _) | (with_reducible exact Below.refl _ _) | (with_reducible assumption) | (with_reducible refine Below.trans ?_ (Below.mono (by assumption) (by first | omega | (simp; done) | (simp; omega) | (simp at *; omega)))))))
    obtain ⟨r0, r1, r2, r3, r4, r5⟩ := b6 Y6
    have rf := Y6.fz
    have rl := Y6.lt
    rw [hrb2]
    clear hb1 Z4 Z6 Y6 hrb
    go_wp2
    refine bodyPost_ret (v := .tuple #[.agg #[.string ⟨#[]⟩, .int .i64 0, .slice none 0 0, .slice none 0 0, .slice none 0 0, .int .i64 0], .int .i64 E]) (by simp [results, Try.results26, go_sem, *]) rfl (Or.inl ⟨hE0, rfl, ?_⟩)
    (repeat (first | (with_reducible refine Below.drew ?_) | (with_reducible refine below_drewN ?_ _) | (with_reducible refine Below.alloc ?_ (by first | omega | (simp; done) | (simp; omega) | (simp at *; omega)) _) | (with_reducible refine Below.setCell ?_ (by first | omega | (simp; done) | (simp; omega) | (simp at *; omega)) _) | (with_reducible exact Below.refl _ _) | (with_reducible assumption) | (with_reducible refine Below.trans ?_ (Below.mono (by assumption) (by first | omega | (simp; done) | (simp; omega) | (simp at *; omega))))))
  · have HNrb0 := Lib.hid (Z6.below hb1)
    have Y4 := Z4.below hb1
    have hB1 : Below w.heap.size w x1 := (by (repeat (first | (with_reducible refine Below.drew ?_) | (with_reducible refine below_drewN ?_ _) | (with_reducible refine Below.alloc ?_ (by first | omega | (simp; done) | (simp; omega) | (simp at *; omega)) _) | (with_reducible refine Below.setCell ?_ (by first | omega | (simp; done) | (simp; omega) | (simp at *; omega)) _) | (with_reducible exact Below.refl _ _) | (with_reducible assumption) | (with_reducible refine Below.trans ?_ (Below.mono (by assumption) (by first | omega | (simp; done) | (simp; omega) | (simp at *; omega)))))))
    obtain ⟨c0, c1, c2, c3⟩ := b4 Y4
    have o1 := Y4.lt
    obtain ⟨pb, po, rfl, hpl, hPR⟩ := hP.at' (k := dn) (by rw [ptL_len]; omega)
    have hpge := hge _ rfl
    simp at hpge
    have hd60 : dn ≤ 60 := by have := (pln_ok hE.out).d6; have := hdn.out; omega
    obtain ⟨E9, hE9⟩ : ∃ z, Hid (secT D dn = z) := ⟨_, Lib.hid rfl⟩
    have p9 := (pt_at hPR (k := dn) (by rw [ptL_len]; omega)).1
    rw [ptL_at] at p9
    have p9' : x1.cell? ⟨pb, po + dn * 2, none⟩ = some (.int .i64 E9) := by rw [p9]; show some (Value.int .i64 (secT D dn)) = _; rw [hE9.out]
    have HPT : Hid (∀ y, Below x1.heap.size x1 y → SlRows ptV 2 y (some ⟨pb, po, none⟩) (ptL D (dn + 1))) := Lib.hid fun y hy => hP.below hy
    have hw9 : IntKind.i64.wrap (((dn + 1 : Nat) : Int) - 1) = (dn : Int) := by rw [IntWalk.i64_in _ (by omega)]; omega
    have hw8 : IntKind.i64.wrap ((dn : Int) + 1 - 1) = (dn : Int) := by rw [IntWalk.i64_in _ (by omega)]; omega
    have hw7 : IntKind.i64.wrap (dn : Int) = (dn : Int) := IntWalk.i64_in _ (by omega)
    have q0 : ¬ (dn : Int) < 0 := by omega
    have q1 : (dn : Int) < ((dn + 1 : Nat) : Int) := by omega
    have q2 : (dn : Int) < (dn : Int) + 1 := by omega
    rw [hrb2]
    clear hb1 Z4 Z6 Y4 hrb hPR hP p9
    go_upto_region 4 with (fail)
    obtain ⟨u, hux⟩ : ∃ u, u = x1 := ⟨_, rfl⟩
    subst hux
    have HS : Hid (∀ y, Below u.heap.size u y → y.cell? ⟨w.heap.size, 0, none⟩ = some (.string nm) ∧ y.cell? ⟨w.heap.size, 1, none⟩ = some (.int .i64 s) ∧ y.cell? ⟨w.heap.size, 2, none⟩ = some (.slice A gn gc) ∧ y.cell? ⟨w.heap.size, 3, none⟩ = some (.slice B dn dc) ∧ y.cell? ⟨pb, po + dn * 2, none⟩ = some (.int .i64 E9)) := Lib.hid fun y hy => ⟨(hy.cell (p := ⟨w.heap.size, 0, none⟩) o1).trans c0, (hy.cell (p := ⟨w.heap.size, 1, none⟩) o1).trans c1, (hy.cell (p := ⟨w.heap.size, 2, none⟩) o1).trans c2, (hy.cell (p := ⟨w.heap.size, 3, none⟩) o1).trans c3, (hy.cell (p := ⟨pb, po + dn * 2, none⟩) hpl).trans p9'⟩
    clear c0 c1 c2 c3 p9'
    have hpn : pb ≠ rb := by have := hpge; omega
    have hwn : w.heap.size ≠ rb := by omega
    refine wp_region_held_drew (S := (fun w' => w'.cell? ⟨w.heap.size, 0, none⟩ = some (.string nm) ∧ w'.cell? ⟨w.heap.size, 1, none⟩ = some (.int .i64 s) ∧ w'.cell? ⟨w.heap.size, 2, none⟩ = some (.slice A gn gc) ∧ w'.cell? ⟨w.heap.size, 3, none⟩ = some (.slice B dn dc) ∧ w'.cell? ⟨pb, po + dn * 2, none⟩ = some (.int .i64 E9))) (by kernel_rfl) (HS.out _ (Below.refl _ _).drew) (fun hHeld => ?_)
    have hT0 : Below u.heap.size u u.drew := (Below.refl _ _).drew
    have HN := Lib.hid (HNrb0.out.below (Below.refl u.heap.size u).drew)
    have hBd := Lib.hid (hB1.trans (hT0.mono hB1.size))
    have hPd := Lib.hid (HPT.out _ hT0)
    generalize hdr : u.drew = v0 at *
    clear hdr
    refine tkH 0 ⟨some 15, _, _, _, _, _⟩ ?_ rfl ?_ (by assumption) ?_
    rotate_left
    · (intro w hSw; (try dsimp only at hSw); go_simp; all_goals with_reducible rfl)
    try simp only [Act.put, sA, sB, sC]
    refine tkH 1 ⟨some 16, _, _, _, _, _⟩ ?_ rfl ?_ (by assumption) ?_
    rotate_left
    · (intro w hSw; (try dsimp only at hSw); go_simp; all_goals with_reducible rfl)
    try simp only [Act.put, sA, sB, sC]
    refine tkH 2 ⟨some 17, _, _, _, _, _⟩ ?_ rfl ?_ (by assumption) ?_
    rotate_left
    · (intro w hSw; (try dsimp only at hSw); go_simp; all_goals with_reducible rfl)
    try simp only [Act.put, sA, sB, sC]
    refine tkH 3 ⟨some 18, _, _, _, _, _⟩ ?_ rfl ?_ (by assumption) ?_
    rotate_left
    · (intro w hSw; (try dsimp only at hSw); go_simp; all_goals with_reducible rfl)
    try simp only [Act.put, sA, sB, sC]
    refine tkH 4 ⟨some 19, _, _, _, _, _⟩ ?_ rfl ?_ (by assumption) ?_
    rotate_left
    · (intro w hSw; (try dsimp only at hSw); go_simp; all_goals with_reducible rfl)
    try simp only [Act.put, sA, sB, sC]
    refine tkH 5 ⟨some 20, _, _, _, _, _⟩ ?_ rfl ?_ (by assumption) ?_
    rotate_left
    · (intro w hSw; (try dsimp only at hSw); go_simp; all_goals with_reducible rfl)
    try simp only [Act.put, sA, sB, sC]
    refine tkH 6 ⟨some 21, _, _, _, _, _⟩ ?_ rfl ?_ (by assumption) ?_
    rotate_left
    · (intro w hSw; (try dsimp only at hSw); go_simp; all_goals with_reducible rfl)
    try simp only [Act.put, sA, sB, sC]
    refine tkH 7 ⟨some 22, _, _, _, _, _⟩ ?_ rfl ?_ (by assumption) ?_
    rotate_left
    · (intro w hSw; (try dsimp only at hSw); go_simp; all_goals with_reducible rfl)
    try simp only [Act.put, sA, sB, sC]
    refine tkH 8 ⟨some 23, _, _, _, _, _⟩ ?_ rfl ?_ (by assumption) ?_
    rotate_left
    · (intro w hSw; (try dsimp only at hSw); go_simp; all_goals with_reducible rfl)
    try simp only [Act.put, sA, sB, sC]
    refine tkH 9 ⟨some 24, _, _, _, _, _⟩ ?_ rfl ?_ (by assumption) ?_
    rotate_left
    · (intro w hSw; (try dsimp only at hSw); go_simp; all_goals with_reducible rfl)
    try simp only [Act.put, sA, sB, sC]
    have HBs := Lib.hid (BlkF.st (vs' := [.string nm, .int .i64 s, .slice A gn gc, .slice B dn dc, .slice (some ⟨pb, po, none⟩) (dn + 1) pc, .int .i64 E9]) HN.out rfl)
    have hTs := Lib.hid (stW_below (N := w.heap.size) (w := w) HN.out.ge [.string nm, .int .i64 s, .slice A gn gc, .slice B dn dc, .slice (some ⟨pb, po, none⟩) (dn + 1) pc, .int .i64 E9] v0 0 hBd.out)
    have hPs : Hid (SlRows ptV 2 ((((((v0.setCell ⟨rb, 0, none⟩ (.string nm)).setCell ⟨rb, 1, none⟩ (.int .i64 s)).setCell ⟨rb, 2, none⟩ (.slice A gn gc)).setCell ⟨rb, 3, none⟩ (.slice B dn dc)).setCell ⟨rb, 4, none⟩ (.slice (some ⟨pb, po, none⟩) (dn + 1) pc)).setCell ⟨rb, 5, none⟩ (.int .i64 E9)) (some ⟨pb, po, none⟩) (ptL D (dn + 1))) := Lib.hid (by
      obtain ⟨b', o', e', l', r'⟩ := hPd.out.at' (k := dn) (by rw [ptL_len]; omega)
      cases e'
      exact Or.inr ⟨pb, po, rfl, by simpa using l', r'.other (c := rb) (i := 0) (l := [.string nm, .int .i64 s, .slice A gn gc, .slice B dn dc, .slice (some ⟨pb, po, none⟩) (dn + 1) pc, .int .i64 E9]) hpn⟩)
    have hSs : ((((((v0.setCell ⟨rb, 0, none⟩ (.string nm)).setCell ⟨rb, 1, none⟩ (.int .i64 s)).setCell ⟨rb, 2, none⟩ (.slice A gn gc)).setCell ⟨rb, 3, none⟩ (.slice B dn dc)).setCell ⟨rb, 4, none⟩ (.slice (some ⟨pb, po, none⟩) (dn + 1) pc)).setCell ⟨rb, 5, none⟩ (.int .i64 E9)).cell? ⟨w.heap.size, 0, none⟩ = some (.string nm) ∧ ((((((v0.setCell ⟨rb, 0, none⟩ (.string nm)).setCell ⟨rb, 1, none⟩ (.int .i64 s)).setCell ⟨rb, 2, none⟩ (.slice A gn gc)).setCell ⟨rb, 3, none⟩ (.slice B dn dc)).setCell ⟨rb, 4, none⟩ (.slice (some ⟨pb, po, none⟩) (dn + 1) pc)).setCell ⟨rb, 5, none⟩ (.int .i64 E9)).cell? ⟨w.heap.size, 1, none⟩ = some (.int .i64 s) ∧ ((((((v0.setCell ⟨rb, 0, none⟩ (.string nm)).setCell ⟨rb, 1, none⟩ (.int .i64 s)).setCell ⟨rb, 2, none⟩ (.slice A gn gc)).setCell ⟨rb, 3, none⟩ (.slice B dn dc)).setCell ⟨rb, 4, none⟩ (.slice (some ⟨pb, po, none⟩) (dn + 1) pc)).setCell ⟨rb, 5, none⟩ (.int .i64 E9)).cell? ⟨w.heap.size, 2, none⟩ = some (.slice A gn gc) ∧ ((((((v0.setCell ⟨rb, 0, none⟩ (.string nm)).setCell ⟨rb, 1, none⟩ (.int .i64 s)).setCell ⟨rb, 2, none⟩ (.slice A gn gc)).setCell ⟨rb, 3, none⟩ (.slice B dn dc)).setCell ⟨rb, 4, none⟩ (.slice (some ⟨pb, po, none⟩) (dn + 1) pc)).setCell ⟨rb, 5, none⟩ (.int .i64 E9)).cell? ⟨w.heap.size, 3, none⟩ = some (.slice B dn dc) ∧ ((((((v0.setCell ⟨rb, 0, none⟩ (.string nm)).setCell ⟨rb, 1, none⟩ (.int .i64 s)).setCell ⟨rb, 2, none⟩ (.slice A gn gc)).setCell ⟨rb, 3, none⟩ (.slice B dn dc)).setCell ⟨rb, 4, none⟩ (.slice (some ⟨pb, po, none⟩) (dn + 1) pc)).setCell ⟨rb, 5, none⟩ (.int .i64 E9)).cell? ⟨pb, po + dn * 2, none⟩ = some (.int .i64 E9) := by
      obtain ⟨h0, h1, h2, h3, h4⟩ := hHeld
      exact ⟨(stW_oc (l := [.string nm, .int .i64 s, .slice A gn gc, .slice B dn dc, .slice (some ⟨pb, po, none⟩) (dn + 1) pc, .int .i64 E9]) (i := 0) hwn 0).trans h0, (stW_oc (l := [.string nm, .int .i64 s, .slice A gn gc, .slice B dn dc, .slice (some ⟨pb, po, none⟩) (dn + 1) pc, .int .i64 E9]) (i := 0) hwn 1).trans h1, (stW_oc (l := [.string nm, .int .i64 s, .slice A gn gc, .slice B dn dc, .slice (some ⟨pb, po, none⟩) (dn + 1) pc, .int .i64 E9]) (i := 0) hwn 2).trans h2, (stW_oc (l := [.string nm, .int .i64 s, .slice A gn gc, .slice B dn dc, .slice (some ⟨pb, po, none⟩) (dn + 1) pc, .int .i64 E9]) (i := 0) hwn 3).trans h3, (stW_oc (l := [.string nm, .int .i64 s, .slice A gn gc, .slice B dn dc, .slice (some ⟨pb, po, none⟩) (dn + 1) pc, .int .i64 E9]) (i := 0) hpn (po + dn * 2)).trans h4⟩
    obtain ⟨k0, k1, k2, k3, k4, k5⟩ := b6 HN.out
    have kf := HN.out.fz
    refine wpAnyH_ready (rs := [10]) (by kernel_rfl) (by simp) ?_
    refine AllReadyH.cons rfl (fun K hK => ?_) AllReadyH.nil
    go_simp
    go_wp2_with fail
    refine hK.out _ _ hSs (fun hHeld => ?_)
    clear hK K k0 k1 k2 k3 k4 k5 kf hSs
    try simp only [Act.put, sA, sB, sC]
    refine tkH 11 ⟨some 3, _, _, _, _, _⟩ ?_ rfl ?_ (by assumption) ?_
    rotate_left
    · (intro w hSw; (try dsimp only at hSw); go_simp; all_goals with_reducible rfl)
    try simp only [Act.put, sA, sB, sC]
    refine wpAnyH_done (by kernel_rfl) ?_ _
    refine ex_world (fun v1 => BlkF v1 w.heap.size rb [.string nm, .int .i64 s, .slice A gn gc, .slice B dn dc, .slice (some ⟨pb, po, none⟩) (dn + 1) pc, .int .i64 E9] ∧ Below w.heap.size w v1 ∧ SlRows ptV 2 v1 (some ⟨pb, po, none⟩) (ptL D (dn + 1))) ⟨HBs.out, hTs.out, hPs.out⟩ (fun v1 hv1 => ?_)
    clear hHeld HS HN HBs hTs hPs hPd hBd
    obtain ⟨HBs1, hTs1, hPs⟩ := hv1
    obtain ⟨r0, r1, r2, r3, r4, r5⟩ := b6 HBs1
    have hTs1 := Lib.hid hTs1
    have hPs := Lib.hid hPs
    clear HBs1
    go_wp2
    refine bodyPost_ret (v := .tuple #[.agg #[.string nm, .int .i64 s, .slice A gn gc, .slice B dn dc, .slice (some ⟨pb, po, none⟩) (dn + 1) pc, .int .i64 E9], .int .i64 0]) (by simp [results, Try.results26, go_sem, *]) rfl ?_
    exact Or.inr ⟨rfl, some ⟨pb, po, none⟩, pc, E9, rfl, hPs.out, hE9.out, hTs1.out⟩
end Go.Proofs.Ytgidmmmdpmophaa
