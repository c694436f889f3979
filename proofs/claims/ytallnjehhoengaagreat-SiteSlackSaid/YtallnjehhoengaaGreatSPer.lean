/- The statements' own copies of tables; SitePeriods. -/
import Derived.Test.YtallnjehhoengaaGreatSAwk2
import Derived.Test.YtallnjehhoengaaGreatSAng2
import Derived.Laws.StructEq
import Derived.Outline
namespace Go.Proofs.YtallnjehhoengaaGreat
open Go.ChangeShapes Go.WideShapes Go.ChangeAt Go.RowKit
set_option linter.unusedVariables false
set_option linter.unusedSimpArgs false
attribute [local go_sem ↓] Go.wp_at_zero Go.wp_at_succ
theorem sl_set {α : Type} {f : α → List Value} {n : Nat} {w : World} {A : Option Addr} {L : List α} {N b i : Nat} {v : Value} (h : SlRows f n w A L) (hA : ∀ ad, A = some ad → N ≤ ad.block) (hb : b < N) : SlRows f n (w.setCell ⟨b, i, none⟩ v) A L := by
  rcases h with h | ⟨c, off, rfl, hlt, h⟩
  · exact Or.inl h
  · have hc : N ≤ c := hA _ rfl
    exact Or.inr ⟨c, off, rfl, by simpa using hlt, fun k hk j hj => by rw [cell_offT (Or.inl (by omega))]; exact h k hk j hj⟩
/-- A copy of a table. -/
def OwnP (m : Int) (n : Nat) (L : List Wv) (w : World) (e : Ending) (w' : World) : Prop := ∃ (G : Option Addr) (cg : Nat), e = .returned (.agg #[.int .i64 m, .slice G n cg]) ∧ SlRows wvV 3 w' G L ∧ Below w.heap.size w w'
structure OwnS (m : Int) (A : Option Addr) (n cap : Nat) (w X : World) : Prop where
  c0 : X.cell? ⟨w.heap.size, 0, none⟩ = some (.int .i64 m)
  c1 : X.cell? ⟨w.heap.size, 1, none⟩ = some (.slice A n cap)
  r0 : X.cell? ⟨w.heap.size + 1, 0, none⟩ = some (.int .i64 0)
  r1 : X.cell? ⟨w.heap.size + 1, 1, none⟩ = some (.slice none 0 0)
  fr : ∀ j, X.frozen? ⟨w.heap.size + 1, j, none⟩ = false
  be : Below w.heap.size w X
  lt : w.heap.size + 1 < X.heap.size
theorem OwnS.below {m : Int} {A : Option Addr} {n cap : Nat} {w X X' : World} (h : OwnS m A n cap w X) (hb : Below X.heap.size X X') : OwnS m A n cap w X' := by
  have z := hb.size
  have l := h.lt
  have l0 : w.heap.size < X.heap.size := by omega
  exact ⟨(hb.cell (p := ⟨w.heap.size, 0, none⟩) l0).trans h.c0, (hb.cell (p := ⟨w.heap.size, 1, none⟩) l0).trans h.c1, (hb.cell (p := ⟨w.heap.size + 1, 0, none⟩) l).trans h.r0, (hb.cell (p := ⟨w.heap.size + 1, 1, none⟩) l).trans h.r1, fun j => (hb.frozen (p := ⟨w.heap.size + 1, j, none⟩) l).trans (h.fr j), h.be.trans (hb.mono h.be.size), by omega⟩
theorem ownS_start (m : Int) (A : Option Addr) (n cap : Nat) (w : World) : OwnS m A n cap w ((w.alloc (.cells #[.int .i64 m, .slice A n cap] 41)).alloc (.cells #[.int .i64 0, .slice none 0 0] 41)) :=
  ⟨by simp [go_sem, World.cell?_alloc_past], by simp [go_sem, World.cell?_alloc_past], by simp [go_sem], by simp [go_sem], by intro j; simp [go_sem], (by (repeat (first | (with_reducible refine Below.drew ?_) | (with_reducible refine below_drewN ?_ _) | (with_reducible refine Below.alloc ?_ (by first | omega | (simp; done) | (simp; omega) | (simp at *; omega)) _) | (with_reducible refine Below.setCell ?_ (by first | omega | (simp; done) | (simp; omega) | (simp at *; omega)) _) | (with_reducible exact Below.refl _ _) | (with_reducible assumption) | (with_reducible refine Below.trans ?_ (Below.mono (by assumption) (by first | omega | (simp; done) | (simp; omega) | (simp at *; omega))))))), by simp⟩
set_option maxRecDepth 100000 in
set_option maxHeartbeats 1000000 in
theorem own_is (m : Int) (L : List Wv) (A : Option Addr) (n cap : Nat) (w : World) (hn : Hid (n = L.length)) (hl : n ≤ 1000000) (HL : Hid (SlRows wvV 3 w A L)) (CA : Hid (A = none → n = 0 ∧ cap = 0)) :
    Calls Tryz.prog 27 #[.agg #[.int .i64 m, .slice A n cap]] w (OwnP m n L w) := by
  obtain ⟨i0, hi, hz0, hz1, hz2⟩ := info_partsS infoWv
  have HI := Lib.hid hi
  have HZ0 := Lib.hid hz0
  have HZ1 := Lib.hid hz1
  have HZ2 := Lib.hid hz2
  have HLLA := Lib.hid (rowsV_len (f := wvV) (n := 3) (fun _ => rfl) L)
  rw [← hn.out] at HLLA
  clear hi hz0 hz1 hz2
  go_enter Tryz.func27, Tryz.ntmps27
  go_upto_region 1 with (fail)
  refine wp_world (OwnS m A n cap w) (ownS_start m A n cap w) (fun u hu => ?_)
  have HU := Lib.hid hu
  have HS : Hid (∀ x, Below u.heap.size u x → x.cell? ⟨w.heap.size, 0, none⟩ = some (.int .i64 m) ∧ x.cell? ⟨w.heap.size, 1, none⟩ = some (.slice A n cap)) := Lib.hid fun x hx => ⟨(HU.out.below hx).c0, (HU.out.below hx).c1⟩
  have HA : Hid (∀ x, Below u.heap.size u x → SlRows wvV 3 x A L) := Lib.hid fun x hx => HL.out.below (HU.out.below hx).be
  clear hu
  refine wp_region_held_drew (S := (fun w' => w'.cell? ⟨w.heap.size, 0, none⟩ = some (.int .i64 m) ∧ w'.cell? ⟨w.heap.size, 1, none⟩ = some (.slice A n cap))) (by kernel_rfl) (by exact HS.out _ (Below.refl u.heap.size u).drew) (fun hHeld => ?_)
  refine tkH 0 ⟨some 3, _, _, _, _, _⟩ ?_ rfl ?_ (by assumption) ?_
  rotate_left
  · (intro w hSw; (try dsimp only at hSw); go_simp; all_goals with_reducible rfl)
  try simp only [Act.put, sA, sB, sC]
  refine tkH 1 ⟨some 4, _, _, _, _, _⟩ ?_ rfl ?_ (by assumption) ?_
  rotate_left
  · (intro w hSw; (try dsimp only at hSw); go_simp; all_goals with_reducible rfl)
  try simp only [Act.put, sA, sB, sC]
  refine tkH 3 ⟨some 6, _, _, _, _, _⟩ ?_ rfl ?_ (by assumption) ?_
  rotate_left
  · (intro w hSw; (try dsimp only at hSw); go_simp; all_goals with_reducible rfl)
  try simp only [Act.put, sA, sB, sC]
  refine tkH 4 ⟨some 7, _, _, _, _, _⟩ ?_ rfl ?_ (by assumption) ?_
  rotate_left
  · (intro w hSw; (try dsimp only at hSw); go_simp; all_goals with_reducible rfl)
  try simp only [Act.put, sA, sB, sC]
  have hB0 : Below u.heap.size u u.drew := (Below.refl u.heap.size u).drew
  generalize hdr : u.drew = v0 at *
  clear hdr
  refine wpAnyH_ready (rs := [2]) (by kernel_rfl) (by simp) ?_
  refine AllReadyH.cons rfl (fun K hK => ?_) AllReadyH.nil
  go_simp
  go_wp2_with fail
  refine hK.out _ _ (HS.out _ ((hB0).alloc (hB0).size _)) (fun hHeld => ?_)
  clear hK K
  try simp only [Act.put, sA, sB, sC]
  obtain ⟨bz, ebz⟩ : ∃ x, v0.heap.size = x := ⟨_, rfl⟩
  generalize hq1 : v0.alloc (.cells #[] 34) = v1
  have hb1 : Below v0.heap.size v0 v1 := by rw [← hq1]; exact (Below.refl _ _).alloc (Nat.le_refl _) _
  have HO1 : Hid (v1.ownsRow u.heap.size 34 3 (.slice (some ⟨bz, 0, none⟩) 0 0) 0 []) := Lib.hid (own_emptyS (by rw [← ebz]; exact (hB0).size) (by rw [← hq1, ← ebz]; exact allocF_at _ _))
  have hB1 : Below u.heap.size u v1 := (hB0).trans (hb1.mono (hB0).size)
  rw [ebz]
  clear hq1
  refine wpAnyH_ready (rs := [5]) (by kernel_rfl) (by simp) ?_
  refine AllReadyH.cons rfl (fun K hK => ?_) AllReadyH.nil
  rw [if_pos (by kernel_rfl)]
  have HX2 := Lib.hid (wv_src (HA.out _ (hB1)))
  refine oper_append_sl _ _ 39 rfl u.heap.size 34 i0 (.agg #[.int .i64 0, .int .i64 0, .int .i64 0]) 3 24 Tryz.underlying39 HI.out HZ0.out HZ1.out HZ2.out rfl (by decide) _ 0 [] rfl HO1.out A n cap (rowsV wvV L) rfl CA.out HLLA.out HX2.out (rows_one wvV_one L) ?c2 ?c3 (hB1).size ?_
  case c2 => unfold maxLen; omega
  case c3 => omega
  intro w2v v2 hown hgrow hblk
  try simp only [Nat.zero_add, List.nil_append] at hown
  have hB2 : Below u.heap.size u v2 := (hB1).grown hgrow (hB1).size (fun r hr => (own_block HO1.out r hr).1)
  obtain ⟨G, cg, hv, hS, hGb, _, _, _⟩ := SlRows_own (f := wvV) (n := 3) (L := L) (fun _ => rfl) (by rw [← hn.out]; exact hown)
  rw [← hn.out] at hv
  subst hv
  have HSG := Lib.hid hS
  have HGB := Lib.hid hGb
  clear hown hgrow hblk hS hGb
  refine hK.out _ _ (HS.out _ hB2) (fun hHeld => ?_)
  clear hK K
  try simp only [Act.put, sA, sB, sC]
  refine tkH 6 ⟨some 9, _, _, _, _, _⟩ ?_ rfl ?_ (by assumption) ?_
  rotate_left
  · (intro w hSw; (try dsimp only at hSw); go_simp; all_goals with_reducible rfl)
  try simp only [Act.put, sA, sB, sC]
  obtain ⟨e0, e1, d0, d1, df, dbe, dlt⟩ := HU.out.below hB2
  refine wpAnyH_ready (rs := [7]) (by kernel_rfl) (by simp) ?_
  refine AllReadyH.cons rfl (fun K hK => ?_) AllReadyH.nil
  go_simp
  go_wp2_with fail
  refine hK.out _ _ (by simp [go_sem, World.cell?_alloc_past, *]) (fun hHeld => ?_)
  clear hK K
  try simp only [Act.put, sA, sB, sC]
  refine wpAnyH_done (by kernel_rfl) ?_ _
  go_wp2
  refine bodyPost_ret (v := .agg #[.int .i64 m, .slice G n cg]) (by simp [results, Tryz.results27, go_sem, *]) rfl ⟨G, cg, rfl, ?_, ?_⟩
  · have lu := HU.out.lt
    exact sl_set (sl_set HSG.out HGB.out (by omega)) HGB.out (by omega)
  · (repeat (first | (with_reducible refine Below.drew ?_) | (with_reducible refine below_drewN ?_ _) | (with_reducible refine Below.alloc ?_ (by first | omega | (simp; done) | (simp; omega) | (simp at *; omega)) _) | (with_reducible refine Below.setCell ?_ (by first | omega | (simp; done) | (simp; omega) | (simp at *; omega)) _) | (with_reducible exact Below.refl _ _) | (with_reducible assumption) | (with_reducible refine Below.trans ?_ (Below.mono (by assumption) (by first | omega | (simp; done) | (simp; omega) | (simp at *; omega))))))
theorem one_wv (X : World) (b : Nat) (h p f : Int) (hb : b < X.heap.size) (h0 : X.cell? ⟨b, 0, none⟩ = some (.int .i64 h)) (h1 : X.cell? ⟨b, 1, none⟩ = some (.int .i64 p)) (h2 : X.cell? ⟨b, 2, none⟩ = some (.int .i64 f)) : SlRows wvV 3 X (some ⟨b, 0, none⟩) [⟨h, p, f⟩] := by
  refine Or.inr ⟨b, 0, rfl, hb, fun k hk i hi => ?_⟩
  obtain rfl : k = 0 := by simpa using hk
  rcases (show i = 0 ∨ i = 1 ∨ i = 2 by omega) with rfl | rfl | rfl
  · exact h0
  · exact h1
  · exact h2
theorem ang_per (w : Wv) (t : Int) : angI w (t + w.p) = angI w t := by
  unfold angI
  rw [show w.f * w.p + 4096 * (t + w.p) = (w.f * w.p + 4096 * t) + 4096 * w.p by omega, Int.add_emod_right]
theorem lev_per (m : Int) (w : Wv) (t : Int) : levLo m [w] (t + w.p) = levLo m [w] t ∧ levHi m [w] (t + w.p) = levHi m [w] t := by
  have h : cosW w (t + w.p) = cosW w t := by unfold cosW angLo angHi; rw [ang_per]
  unfold levLo levHi sumLo sumHi
  simp [h]
def PerR (w : World) (rb : Nat) (x y : Int) (s10 s11 : Value) (wx : World) : Prop := ∃ b : Nat, s10 = .pointer (some ⟨b, 0, none⟩) ∧ s11 = .int .i64 0 ∧ wx.cell? ⟨b, 0, none⟩ = some (.int .i64 x) ∧ wx.cell? ⟨b, 1, none⟩ = some (.int .i64 y) ∧ wx.cell? ⟨rb, 0, none⟩ = some (.int .i64 x) ∧ wx.cell? ⟨rb, 1, none⟩ = some (.int .i64 y) ∧ Below w.heap.size w wx
set_option maxRecDepth 100000 in
set_option maxHeartbeats 2000000 in
theorem sitePer_e (m h p f t E : Int) (w : World) (hE : Hid (tidE m [⟨h, p, f⟩] = E)) (hz : (E != 0) = true) :
    Calls Tryz.prog 6 #[.int .i64 m, .agg #[.int .i64 h, .int .i64 p, .int .i64 f], .int .i64 t] w fun e w' => e = .returned (.bool true) ∧ Below w.heap.size w w' := by
  have hz2 : (E == 0) = false := by simpa [bne] using hz
  go_enter Tryz.func6, Tryz.ntmps6
  go_wp2_with fail
  refine (awake_any _).mono ?_
  rintro e xw1 ⟨rfl, hbx1⟩
  have zx1 := hbx1.size
  try simp at zx1
  obtain ⟨x1_0_0, x1_0_1, x1_0_2⟩ : xw1.cell? ⟨w.heap.size, 0, none⟩ = some (.int .i64 h) ∧ xw1.cell? ⟨w.heap.size, 1, none⟩ = some (.int .i64 p) ∧ xw1.cell? ⟨w.heap.size, 2, none⟩ = some (.int .i64 f) := by refine ⟨?_, ?_, ?_⟩ <;> (rw [(bcell hbx1).1 _ _ (by first | (simp; done) | (simp; omega) | omega)]; simp [go_sem, World.cell?_alloc_past, *])
  obtain ⟨x1o0, x1n0, x1m0, x1t0_0, x1t0_1⟩ : w.heap.size < xw1.heap.size ∧ xw1.heap.size ≠ w.heap.size ∧ w.heap.size ≠ xw1.heap.size ∧ w.heap.size < xw1.heap.size + 1 ∧ w.heap.size < xw1.heap.size + 1 + 1 := by refine ⟨?_, ?_, ?_, ?_, ?_⟩ <;> omega
  have hBx1 : Below w.heap.size w xw1 := (by (repeat (first | (with_reducible refine Below.drew ?_) | (with_reducible refine below_drewN ?_ _) | (with_reducible refine Below.alloc ?_ (by first | omega | (simp; done) | (simp; omega) | (simp at *; omega)) _) | (with_reducible refine Below.setCell ?_ (by first | omega | (simp; done) | (simp; omega) | (simp at *; omega)) _) | (with_reducible exact Below.refl _ _) | (with_reducible assumption) | (with_reducible refine Below.trans ?_ (Below.mono (by assumption) (by first | omega | (simp; done) | (simp; omega) | (simp at *; omega)))))))
  clear hbx1 
  go_wp2_with fail
  refine (refTide_is m [⟨h, p, f⟩] (some ⟨xw1.heap.size, 0, none⟩) 1 1 E _ (Lib.hid rfl) (by decide) (Lib.hid (one_wv _ _ h p f (by first | omega | (simp; done) | (simp; omega)) (by simp [go_sem, World.cell?_alloc_past, *]) (by simp [go_sem, World.cell?_alloc_past, *]) (by simp [go_sem, World.cell?_alloc_past, *]))) hE).mono ?_
  rintro e xw2 ⟨rfl, hbx2⟩
  have zx2 := hbx2.size
  try simp at zx2
  obtain ⟨x2_0_0, x2_0_1, x2_0_2, x2_1_0, x2_1_1, x2_1_2, x2_2_0, x2_2_1⟩ : xw2.cell? ⟨w.heap.size, 0, none⟩ = some (.int .i64 h) ∧ xw2.cell? ⟨w.heap.size, 1, none⟩ = some (.int .i64 p) ∧ xw2.cell? ⟨w.heap.size, 2, none⟩ = some (.int .i64 f) ∧ xw2.cell? ⟨xw1.heap.size, 0, none⟩ = some (.int .i64 h) ∧ xw2.cell? ⟨xw1.heap.size, 1, none⟩ = some (.int .i64 p) ∧ xw2.cell? ⟨xw1.heap.size, 2, none⟩ = some (.int .i64 f) ∧ xw2.cell? ⟨xw1.heap.size + 1, 0, none⟩ = some (.int .i64 m) ∧ xw2.cell? ⟨xw1.heap.size + 1, 1, none⟩ = some (.slice (some ⟨xw1.heap.size, 0, none⟩) 1 1) := by refine ⟨?_, ?_, ?_, ?_, ?_, ?_, ?_, ?_⟩ <;> (rw [(bcell hbx2).1 _ _ (by first | (simp; done) | (simp; omega) | omega)]; simp [go_sem, World.cell?_alloc_past, *])
  obtain ⟨x2o0, x2n0, x2m0, x2t0_0, x2t0_1, x2o1, x2n1, x2m1, x2t1_0, x2t1_1, x2o2, x2n2, x2m2, x2t2_0, x2t2_1⟩ : w.heap.size < xw2.heap.size ∧ xw2.heap.size ≠ w.heap.size ∧ w.heap.size ≠ xw2.heap.size ∧ w.heap.size < xw2.heap.size + 1 ∧ w.heap.size < xw2.heap.size + 1 + 1 ∧ xw1.heap.size < xw2.heap.size ∧ xw2.heap.size ≠ xw1.heap.size ∧ xw1.heap.size ≠ xw2.heap.size ∧ xw1.heap.size < xw2.heap.size + 1 ∧ xw1.heap.size < xw2.heap.size + 1 + 1 ∧ xw1.heap.size + 1 < xw2.heap.size ∧ xw2.heap.size ≠ xw1.heap.size + 1 ∧ xw1.heap.size + 1 ≠ xw2.heap.size ∧ xw1.heap.size + 1 < xw2.heap.size + 1 ∧ xw1.heap.size + 1 < xw2.heap.size + 1 + 1 := by refine ⟨?_, ?_, ?_, ?_, ?_, ?_, ?_, ?_, ?_, ?_, ?_, ?_, ?_, ?_, ?_⟩ <;> omega
  have hBx2 : Below w.heap.size w xw2 := (by (repeat (first | (with_reducible refine Below.drew ?_) | (with_reducible refine below_drewN ?_ _) | (with_reducible refine Below.alloc ?_ (by first | omega | (simp; done) | (simp; omega) | (simp at *; omega)) _) | (with_reducible refine Below.setCell ?_ (by first | omega | (simp; done) | (simp; omega) | (simp at *; omega)) _) | (with_reducible exact Below.refl _ _) | (with_reducible assumption) | (with_reducible refine Below.trans ?_ (Below.mono (by assumption) (by first | omega | (simp; done) | (simp; omega) | (simp at *; omega)))))))
  clear hbx2 x1_0_0 x1_0_1 x1_0_2 x1o0 x1n0 x1m0 x1t0_0 x1t0_1 hBx1
  go_wp2
  go_ret
  exact ⟨rfl, hBx2⟩
set_option maxRecDepth 100000 in
set_option maxHeartbeats 2000000 in
theorem sitePer_t (m h p f t : Int) (w : World) (hE : Hid (tidE m [⟨h, p, f⟩] = 0)) (hM : Hid (inB t 0 1000000 = false)) :
    Calls Tryz.prog 6 #[.int .i64 m, .agg #[.int .i64 h, .int .i64 p, .int .i64 f], .int .i64 t] w fun e w' => e = .returned (.bool true) ∧ Below w.heap.size w w' := by
  go_enter Tryz.func6, Tryz.ntmps6
  go_wp2_with fail
  refine (awake_any _).mono ?_
  rintro e xw1 ⟨rfl, hbx1⟩
  have zx1 := hbx1.size
  try simp at zx1
  obtain ⟨x1_0_0, x1_0_1, x1_0_2⟩ : xw1.cell? ⟨w.heap.size, 0, none⟩ = some (.int .i64 h) ∧ xw1.cell? ⟨w.heap.size, 1, none⟩ = some (.int .i64 p) ∧ xw1.cell? ⟨w.heap.size, 2, none⟩ = some (.int .i64 f) := by refine ⟨?_, ?_, ?_⟩ <;> (rw [(bcell hbx1).1 _ _ (by first | (simp; done) | (simp; omega) | omega)]; simp [go_sem, World.cell?_alloc_past, *])
  obtain ⟨x1o0, x1n0, x1m0, x1t0_0, x1t0_1⟩ : w.heap.size < xw1.heap.size ∧ xw1.heap.size ≠ w.heap.size ∧ w.heap.size ≠ xw1.heap.size ∧ w.heap.size < xw1.heap.size + 1 ∧ w.heap.size < xw1.heap.size + 1 + 1 := by refine ⟨?_, ?_, ?_, ?_, ?_⟩ <;> omega
  have hBx1 : Below w.heap.size w xw1 := (by (repeat (first | (with_reducible refine Below.drew ?_) | (with_reducible refine below_drewN ?_ _) | (with_reducible refine Below.alloc ?_ (by first | omega | (simp; done) | (simp; omega) | (simp at *; omega)) _) | (with_reducible refine Below.setCell ?_ (by first | omega | (simp; done) | (simp; omega) | (simp at *; omega)) _) | (with_reducible exact Below.refl _ _) | (with_reducible assumption) | (with_reducible refine Below.trans ?_ (Below.mono (by assumption) (by first | omega | (simp; done) | (simp; omega) | (simp at *; omega)))))))
  clear hbx1 
  go_wp2_with fail
  refine (refTide_is m [⟨h, p, f⟩] (some ⟨xw1.heap.size, 0, none⟩) 1 1 0 _ (Lib.hid rfl) (by decide) (Lib.hid (one_wv _ _ h p f (by first | omega | (simp; done) | (simp; omega)) (by simp [go_sem, World.cell?_alloc_past, *]) (by simp [go_sem, World.cell?_alloc_past, *]) (by simp [go_sem, World.cell?_alloc_past, *]))) hE).mono ?_
  rintro e xw2 ⟨rfl, hbx2⟩
  have zx2 := hbx2.size
  try simp at zx2
  obtain ⟨x2_0_0, x2_0_1, x2_0_2, x2_1_0, x2_1_1, x2_1_2, x2_2_0, x2_2_1⟩ : xw2.cell? ⟨w.heap.size, 0, none⟩ = some (.int .i64 h) ∧ xw2.cell? ⟨w.heap.size, 1, none⟩ = some (.int .i64 p) ∧ xw2.cell? ⟨w.heap.size, 2, none⟩ = some (.int .i64 f) ∧ xw2.cell? ⟨xw1.heap.size, 0, none⟩ = some (.int .i64 h) ∧ xw2.cell? ⟨xw1.heap.size, 1, none⟩ = some (.int .i64 p) ∧ xw2.cell? ⟨xw1.heap.size, 2, none⟩ = some (.int .i64 f) ∧ xw2.cell? ⟨xw1.heap.size + 1, 0, none⟩ = some (.int .i64 m) ∧ xw2.cell? ⟨xw1.heap.size + 1, 1, none⟩ = some (.slice (some ⟨xw1.heap.size, 0, none⟩) 1 1) := by refine ⟨?_, ?_, ?_, ?_, ?_, ?_, ?_, ?_⟩ <;> (rw [(bcell hbx2).1 _ _ (by first | (simp; done) | (simp; omega) | omega)]; simp [go_sem, World.cell?_alloc_past, *])
  obtain ⟨x2o0, x2n0, x2m0, x2t0_0, x2t0_1, x2o1, x2n1, x2m1, x2t1_0, x2t1_1, x2o2, x2n2, x2m2, x2t2_0, x2t2_1⟩ : w.heap.size < xw2.heap.size ∧ xw2.heap.size ≠ w.heap.size ∧ w.heap.size ≠ xw2.heap.size ∧ w.heap.size < xw2.heap.size + 1 ∧ w.heap.size < xw2.heap.size + 1 + 1 ∧ xw1.heap.size < xw2.heap.size ∧ xw2.heap.size ≠ xw1.heap.size ∧ xw1.heap.size ≠ xw2.heap.size ∧ xw1.heap.size < xw2.heap.size + 1 ∧ xw1.heap.size < xw2.heap.size + 1 + 1 ∧ xw1.heap.size + 1 < xw2.heap.size ∧ xw2.heap.size ≠ xw1.heap.size + 1 ∧ xw1.heap.size + 1 ≠ xw2.heap.size ∧ xw1.heap.size + 1 < xw2.heap.size + 1 ∧ xw1.heap.size + 1 < xw2.heap.size + 1 + 1 := by refine ⟨?_, ?_, ?_, ?_, ?_, ?_, ?_, ?_, ?_, ?_, ?_, ?_, ?_, ?_, ?_⟩ <;> omega
  have hBx2 : Below w.heap.size w xw2 := (by (repeat (first | (with_reducible refine Below.drew ?_) | (with_reducible refine below_drewN ?_ _) | (with_reducible refine Below.alloc ?_ (by first | omega | (simp; done) | (simp; omega) | (simp at *; omega)) _) | (with_reducible refine Below.setCell ?_ (by first | omega | (simp; done) | (simp; omega) | (simp at *; omega)) _) | (with_reducible exact Below.refl _ _) | (with_reducible assumption) | (with_reducible refine Below.trans ?_ (Below.mono (by assumption) (by first | omega | (simp; done) | (simp; omega) | (simp at *; omega)))))))
  clear hbx2 x1_0_0 x1_0_1 x1_0_2 x1o0 x1n0 x1m0 x1t0_0 x1t0_1 hBx1
  go_wp2_with ((go_at_call 23; ((with_reducible refine (isMin_is _ _ _ hM).mono ?_)); rintro e w' ⟨rfl, rfl⟩))
  go_ret
  exact ⟨rfl, hBx2⟩
set_option maxRecDepth 100000 in
set_option maxHeartbeats 2000000 in
theorem sitePer_p (m h p f t : Int) (w : World) (hE : Hid (tidE m [⟨h, p, f⟩] = 0)) (p0 : 1 ≤ p) (p1 : p ≤ 100000) (t0 : 0 ≤ t) (t1 : t ≤ 1000000) (hM : Hid (inB t 0 1000000 = true)) (hM2 : Hid (inB (t + p) 0 1000000 = false)) :
    Calls Tryz.prog 6 #[.int .i64 m, .agg #[.int .i64 h, .int .i64 p, .int .i64 f], .int .i64 t] w fun e w' => e = .returned (.bool true) ∧ Below w.heap.size w w' := by
  have w1 : IntKind.i64.wrap (t + p) = t + p := IntWalk.i64_in _ (by omega)
  go_enter Tryz.func6, Tryz.ntmps6
  go_wp2_with fail
  refine (awake_any _).mono ?_
  rintro e xw1 ⟨rfl, hbx1⟩
  have zx1 := hbx1.size
  try simp at zx1
  obtain ⟨x1_0_0, x1_0_1, x1_0_2⟩ : xw1.cell? ⟨w.heap.size, 0, none⟩ = some (.int .i64 h) ∧ xw1.cell? ⟨w.heap.size, 1, none⟩ = some (.int .i64 p) ∧ xw1.cell? ⟨w.heap.size, 2, none⟩ = some (.int .i64 f) := by refine ⟨?_, ?_, ?_⟩ <;> (rw [(bcell hbx1).1 _ _ (by first | (simp; done) | (simp; omega) | omega)]; simp [go_sem, World.cell?_alloc_past, *])
  obtain ⟨x1o0, x1n0, x1m0, x1t0_0, x1t0_1⟩ : w.heap.size < xw1.heap.size ∧ xw1.heap.size ≠ w.heap.size ∧ w.heap.size ≠ xw1.heap.size ∧ w.heap.size < xw1.heap.size + 1 ∧ w.heap.size < xw1.heap.size + 1 + 1 := by refine ⟨?_, ?_, ?_, ?_, ?_⟩ <;> omega
  have hBx1 : Below w.heap.size w xw1 := (by (repeat (first | (with_reducible refine Below.drew ?_) | (with_reducible refine below_drewN ?_ _) | (with_reducible refine Below.alloc ?_ (by first | omega | (simp; done) | (simp; omega) | (simp at *; omega)) _) | (with_reducible refine Below.setCell ?_ (by first | omega | (simp; done) | (simp; omega) | (simp at *; omega)) _) | (with_reducible exact Below.refl _ _) | (with_reducible assumption) | (with_reducible refine Below.trans ?_ (Below.mono (by assumption) (by first | omega | (simp; done) | (simp; omega) | (simp at *; omega)))))))
  clear hbx1 
  go_wp2_with fail
  refine (refTide_is m [⟨h, p, f⟩] (some ⟨xw1.heap.size, 0, none⟩) 1 1 0 _ (Lib.hid rfl) (by decide) (Lib.hid (one_wv _ _ h p f (by first | omega | (simp; done) | (simp; omega)) (by simp [go_sem, World.cell?_alloc_past, *]) (by simp [go_sem, World.cell?_alloc_past, *]) (by simp [go_sem, World.cell?_alloc_past, *]))) hE).mono ?_
  rintro e xw2 ⟨rfl, hbx2⟩
  have zx2 := hbx2.size
  try simp at zx2
  obtain ⟨x2_0_0, x2_0_1, x2_0_2, x2_1_0, x2_1_1, x2_1_2, x2_2_0, x2_2_1⟩ : xw2.cell? ⟨w.heap.size, 0, none⟩ = some (.int .i64 h) ∧ xw2.cell? ⟨w.heap.size, 1, none⟩ = some (.int .i64 p) ∧ xw2.cell? ⟨w.heap.size, 2, none⟩ = some (.int .i64 f) ∧ xw2.cell? ⟨xw1.heap.size, 0, none⟩ = some (.int .i64 h) ∧ xw2.cell? ⟨xw1.heap.size, 1, none⟩ = some (.int .i64 p) ∧ xw2.cell? ⟨xw1.heap.size, 2, none⟩ = some (.int .i64 f) ∧ xw2.cell? ⟨xw1.heap.size + 1, 0, none⟩ = some (.int .i64 m) ∧ xw2.cell? ⟨xw1.heap.size + 1, 1, none⟩ = some (.slice (some ⟨xw1.heap.size, 0, none⟩) 1 1) := by refine ⟨?_, ?_, ?_, ?_, ?_, ?_, ?_, ?_⟩ <;> (rw [(bcell hbx2).1 _ _ (by first | (simp; done) | (simp; omega) | omega)]; simp [go_sem, World.cell?_alloc_past, *])
  obtain ⟨x2o0, x2n0, x2m0, x2t0_0, x2t0_1, x2o1, x2n1, x2m1, x2t1_0, x2t1_1, x2o2, x2n2, x2m2, x2t2_0, x2t2_1⟩ : w.heap.size < xw2.heap.size ∧ xw2.heap.size ≠ w.heap.size ∧ w.heap.size ≠ xw2.heap.size ∧ w.heap.size < xw2.heap.size + 1 ∧ w.heap.size < xw2.heap.size + 1 + 1 ∧ xw1.heap.size < xw2.heap.size ∧ xw2.heap.size ≠ xw1.heap.size ∧ xw1.heap.size ≠ xw2.heap.size ∧ xw1.heap.size < xw2.heap.size + 1 ∧ xw1.heap.size < xw2.heap.size + 1 + 1 ∧ xw1.heap.size + 1 < xw2.heap.size ∧ xw2.heap.size ≠ xw1.heap.size + 1 ∧ xw1.heap.size + 1 ≠ xw2.heap.size ∧ xw1.heap.size + 1 < xw2.heap.size + 1 ∧ xw1.heap.size + 1 < xw2.heap.size + 1 + 1 := by refine ⟨?_, ?_, ?_, ?_, ?_, ?_, ?_, ?_, ?_, ?_, ?_, ?_, ?_, ?_, ?_⟩ <;> omega
  have hBx2 : Below w.heap.size w xw2 := (by (repeat (first | (with_reducible refine Below.drew ?_) | (with_reducible refine below_drewN ?_ _) | (with_reducible refine Below.alloc ?_ (by first | omega | (simp; done) | (simp; omega) | (simp at *; omega)) _) | (with_reducible refine Below.setCell ?_ (by first | omega | (simp; done) | (simp; omega) | (simp at *; omega)) _) | (with_reducible exact Below.refl _ _) | (with_reducible assumption) | (with_reducible refine Below.trans ?_ (Below.mono (by assumption) (by first | omega | (simp; done) | (simp; omega) | (simp at *; omega)))))))
  clear hbx2 x1_0_0 x1_0_1 x1_0_2 x1o0 x1n0 x1m0 x1t0_0 x1t0_1 hBx1
  go_wp2_with (first | (go_at_call 23; ((with_reducible refine (isMin_is _ _ _ hM).mono ?_)); rintro e w' ⟨rfl, rfl⟩) | (go_at_call 23; ((with_reducible refine (isMin_is _ _ _ hM2).mono ?_)); rintro e w' ⟨rfl, rfl⟩))
  go_ret
  exact ⟨rfl, hBx2⟩
set_option maxRecDepth 100000 in
set_option maxHeartbeats 4000000 in
theorem sitePer_g (m h p f t x y : Int) (w : World) (hE : Hid (tidE m [⟨h, p, f⟩] = 0)) (p0 : 1 ≤ p) (p1 : p ≤ 100000) (t0 : 0 ≤ t) (t1 : t ≤ 1000000) (hM : Hid (inB t 0 1000000 = true)) (hM2 : Hid (inB (t + p) 0 1000000 = true)) (hx : Hid (levLo m [⟨h, p, f⟩] t = x)) (hy : Hid (levHi m [⟨h, p, f⟩] t = y)) (hx2 : Hid (levLo m [⟨h, p, f⟩] (t + p) = x)) (hy2 : Hid (levHi m [⟨h, p, f⟩] (t + p) = y)) :
    Calls Tryz.prog 6 #[.int .i64 m, .agg #[.int .i64 h, .int .i64 p, .int .i64 f], .int .i64 t] w fun e w' => e = .returned (.bool true) ∧ Below w.heap.size w w' := by
  have w1 : IntKind.i64.wrap (t + p) = t + p := IntWalk.i64_in _ (by omega)
  have hl1 : Hid (lvlE m [⟨h, p, f⟩] t = 0) := Lib.hid (by unfold lvlE; rw [hE.out, rngE_t hM.out]; rfl)
  have hl2 : Hid (lvlE m [⟨h, p, f⟩] (t + p) = 0) := Lib.hid (by unfold lvlE; rw [hE.out, rngE_t hM2.out]; rfl)
  go_enter Tryz.func6, Tryz.ntmps6
  go_wp2_with fail
  refine (awake_any _).mono ?_
  rintro e xw1 ⟨rfl, hbx1⟩
  have zx1 := hbx1.size
  try simp at zx1
  obtain ⟨x1_0_0, x1_0_1, x1_0_2⟩ : xw1.cell? ⟨w.heap.size, 0, none⟩ = some (.int .i64 h) ∧ xw1.cell? ⟨w.heap.size, 1, none⟩ = some (.int .i64 p) ∧ xw1.cell? ⟨w.heap.size, 2, none⟩ = some (.int .i64 f) := by refine ⟨?_, ?_, ?_⟩ <;> (rw [(bcell hbx1).1 _ _ (by first | (simp; done) | (simp; omega) | omega)]; simp [go_sem, World.cell?_alloc_past, *])
  obtain ⟨x1o0, x1n0, x1m0, x1t0_0, x1t0_1⟩ : w.heap.size < xw1.heap.size ∧ xw1.heap.size ≠ w.heap.size ∧ w.heap.size ≠ xw1.heap.size ∧ w.heap.size < xw1.heap.size + 1 ∧ w.heap.size < xw1.heap.size + 1 + 1 := by refine ⟨?_, ?_, ?_, ?_, ?_⟩ <;> omega
  have hBx1 : Below w.heap.size w xw1 := (by (repeat (first | (with_reducible refine Below.drew ?_) | (with_reducible refine below_drewN ?_ _) | (with_reducible refine Below.alloc ?_ (by first | omega | (simp; done) | (simp; omega) | (simp at *; omega)) _) | (with_reducible refine Below.setCell ?_ (by first | omega | (simp; done) | (simp; omega) | (simp at *; omega)) _) | (with_reducible exact Below.refl _ _) | (with_reducible assumption) | (with_reducible refine Below.trans ?_ (Below.mono (by assumption) (by first | omega | (simp; done) | (simp; omega) | (simp at *; omega)))))))
  clear hbx1 
  go_wp2_with fail
  refine (refTide_is m [⟨h, p, f⟩] (some ⟨xw1.heap.size, 0, none⟩) 1 1 0 _ (Lib.hid rfl) (by decide) (Lib.hid (one_wv _ _ h p f (by first | omega | (simp; done) | (simp; omega)) (by simp [go_sem, World.cell?_alloc_past, *]) (by simp [go_sem, World.cell?_alloc_past, *]) (by simp [go_sem, World.cell?_alloc_past, *]))) hE).mono ?_
  rintro e xw2 ⟨rfl, hbx2⟩
  have zx2 := hbx2.size
  try simp at zx2
  obtain ⟨x2_0_0, x2_0_1, x2_0_2, x2_1_0, x2_1_1, x2_1_2, x2_2_0, x2_2_1⟩ : xw2.cell? ⟨w.heap.size, 0, none⟩ = some (.int .i64 h) ∧ xw2.cell? ⟨w.heap.size, 1, none⟩ = some (.int .i64 p) ∧ xw2.cell? ⟨w.heap.size, 2, none⟩ = some (.int .i64 f) ∧ xw2.cell? ⟨xw1.heap.size, 0, none⟩ = some (.int .i64 h) ∧ xw2.cell? ⟨xw1.heap.size, 1, none⟩ = some (.int .i64 p) ∧ xw2.cell? ⟨xw1.heap.size, 2, none⟩ = some (.int .i64 f) ∧ xw2.cell? ⟨xw1.heap.size + 1, 0, none⟩ = some (.int .i64 m) ∧ xw2.cell? ⟨xw1.heap.size + 1, 1, none⟩ = some (.slice (some ⟨xw1.heap.size, 0, none⟩) 1 1) := by refine ⟨?_, ?_, ?_, ?_, ?_, ?_, ?_, ?_⟩ <;> (rw [(bcell hbx2).1 _ _ (by first | (simp; done) | (simp; omega) | omega)]; simp [go_sem, World.cell?_alloc_past, *])
  obtain ⟨x2o0, x2n0, x2m0, x2t0_0, x2t0_1, x2o1, x2n1, x2m1, x2t1_0, x2t1_1, x2o2, x2n2, x2m2, x2t2_0, x2t2_1⟩ : w.heap.size < xw2.heap.size ∧ xw2.heap.size ≠ w.heap.size ∧ w.heap.size ≠ xw2.heap.size ∧ w.heap.size < xw2.heap.size + 1 ∧ w.heap.size < xw2.heap.size + 1 + 1 ∧ xw1.heap.size < xw2.heap.size ∧ xw2.heap.size ≠ xw1.heap.size ∧ xw1.heap.size ≠ xw2.heap.size ∧ xw1.heap.size < xw2.heap.size + 1 ∧ xw1.heap.size < xw2.heap.size + 1 + 1 ∧ xw1.heap.size + 1 < xw2.heap.size ∧ xw2.heap.size ≠ xw1.heap.size + 1 ∧ xw1.heap.size + 1 ≠ xw2.heap.size ∧ xw1.heap.size + 1 < xw2.heap.size + 1 ∧ xw1.heap.size + 1 < xw2.heap.size + 1 + 1 := by refine ⟨?_, ?_, ?_, ?_, ?_, ?_, ?_, ?_, ?_, ?_, ?_, ?_, ?_, ?_, ?_⟩ <;> omega
  have hBx2 : Below w.heap.size w xw2 := (by (repeat (first | (with_reducible refine Below.drew ?_) | (with_reducible refine below_drewN ?_ _) | (with_reducible refine Below.alloc ?_ (by first | omega | (simp; done) | (simp; omega) | (simp at *; omega)) _) | (with_reducible refine Below.setCell ?_ (by first | omega | (simp; done) | (simp; omega) | (simp at *; omega)) _) | (with_reducible exact Below.refl _ _) | (with_reducible assumption) | (with_reducible refine Below.trans ?_ (Below.mono (by assumption) (by first | omega | (simp; done) | (simp; omega) | (simp at *; omega)))))))
  clear hbx2 x1_0_0 x1_0_1 x1_0_2 x1o0 x1n0 x1m0 x1t0_0 x1t0_1 hBx1
  go_wp2_with (first | (go_at_call 23; ((with_reducible refine (isMin_is _ _ _ hM).mono ?_)); rintro e w' ⟨rfl, rfl⟩) | (go_at_call 23; ((with_reducible refine (isMin_is _ _ _ hM2).mono ?_)); rintro e w' ⟨rfl, rfl⟩))
  go_wp2_with fail
  refine (own_is m [⟨h, p, f⟩] (some ⟨xw1.heap.size, 0, none⟩) 1 1 _ (Lib.hid rfl) (by decide) (Lib.hid (one_wv _ _ h p f (by first | omega | (simp; done) | (simp; omega)) (by simp [go_sem, World.cell?_alloc_past, *]) (by simp [go_sem, World.cell?_alloc_past, *]) (by simp [go_sem, World.cell?_alloc_past, *]))) (Lib.hid (fun h => by cases h))).mono ?_
  rintro e xw3 ⟨G1, c1, rfl, hS1, hbx3⟩
  have zx3 := hbx3.size
  try simp at zx3
  obtain ⟨x3_0_0, x3_0_1, x3_0_2, x3_1_0, x3_1_1, x3_1_2, x3_2_0, x3_2_1⟩ : xw3.cell? ⟨w.heap.size, 0, none⟩ = some (.int .i64 h) ∧ xw3.cell? ⟨w.heap.size, 1, none⟩ = some (.int .i64 p) ∧ xw3.cell? ⟨w.heap.size, 2, none⟩ = some (.int .i64 f) ∧ xw3.cell? ⟨xw1.heap.size, 0, none⟩ = some (.int .i64 h) ∧ xw3.cell? ⟨xw1.heap.size, 1, none⟩ = some (.int .i64 p) ∧ xw3.cell? ⟨xw1.heap.size, 2, none⟩ = some (.int .i64 f) ∧ xw3.cell? ⟨xw1.heap.size + 1, 0, none⟩ = some (.int .i64 m) ∧ xw3.cell? ⟨xw1.heap.size + 1, 1, none⟩ = some (.slice (some ⟨xw1.heap.size, 0, none⟩) 1 1) := by refine ⟨?_, ?_, ?_, ?_, ?_, ?_, ?_, ?_⟩ <;> (rw [(bcell hbx3).1 _ _ (by first | (simp; done) | (simp; omega) | omega)]; simp [go_sem, World.cell?_alloc_past, *])
  obtain ⟨x3o0, x3n0, x3m0, x3t0_0, x3t0_1, x3o1, x3n1, x3m1, x3t1_0, x3t1_1, x3o2, x3n2, x3m2, x3t2_0, x3t2_1⟩ : w.heap.size < xw3.heap.size ∧ xw3.heap.size ≠ w.heap.size ∧ w.heap.size ≠ xw3.heap.size ∧ w.heap.size < xw3.heap.size + 1 ∧ w.heap.size < xw3.heap.size + 1 + 1 ∧ xw1.heap.size < xw3.heap.size ∧ xw3.heap.size ≠ xw1.heap.size ∧ xw1.heap.size ≠ xw3.heap.size ∧ xw1.heap.size < xw3.heap.size + 1 ∧ xw1.heap.size < xw3.heap.size + 1 + 1 ∧ xw1.heap.size + 1 < xw3.heap.size ∧ xw3.heap.size ≠ xw1.heap.size + 1 ∧ xw1.heap.size + 1 ≠ xw3.heap.size ∧ xw1.heap.size + 1 < xw3.heap.size + 1 ∧ xw1.heap.size + 1 < xw3.heap.size + 1 + 1 := by refine ⟨?_, ?_, ?_, ?_, ?_, ?_, ?_, ?_, ?_, ?_, ?_, ?_, ?_, ?_, ?_⟩ <;> omega
  have hBx3 : Below w.heap.size w xw3 := (by (repeat (first | (with_reducible refine Below.drew ?_) | (with_reducible refine below_drewN ?_ _) | (with_reducible refine Below.alloc ?_ (by first | omega | (simp; done) | (simp; omega) | (simp at *; omega)) _) | (with_reducible refine Below.setCell ?_ (by first | omega | (simp; done) | (simp; omega) | (simp at *; omega)) _) | (with_reducible exact Below.refl _ _) | (with_reducible assumption) | (with_reducible refine Below.trans ?_ (Below.mono (by assumption) (by first | omega | (simp; done) | (simp; omega) | (simp at *; omega)))))))
  clear hbx3 x2_0_0 x2_0_1 x2_0_2 x2_1_0 x2_1_1 x2_1_2 x2_2_0 x2_2_1 x2o0 x2n0 x2m0 x2t0_0 x2t0_1 x2o1 x2n1 x2m1 x2t1_0 x2t1_1 x2o2 x2n2 x2m2 x2t2_0 x2t2_1 hBx2
  go_wp2_with fail
  refine (LevelAt_good m [⟨h, p, f⟩] G1 c1 1 t x y _ (Lib.hid rfl) (by decide) (Lib.hid hS1) hl1 hx hy).mono ?_
  rintro e xw4 ⟨rfl, hbx4⟩
  have zx4 := hbx4.size
  try simp at zx4
  obtain ⟨x4_0_0, x4_0_1, x4_0_2, x4_1_0, x4_1_1, x4_1_2, x4_2_0, x4_2_1⟩ : xw4.cell? ⟨w.heap.size, 0, none⟩ = some (.int .i64 h) ∧ xw4.cell? ⟨w.heap.size, 1, none⟩ = some (.int .i64 p) ∧ xw4.cell? ⟨w.heap.size, 2, none⟩ = some (.int .i64 f) ∧ xw4.cell? ⟨xw1.heap.size, 0, none⟩ = some (.int .i64 h) ∧ xw4.cell? ⟨xw1.heap.size, 1, none⟩ = some (.int .i64 p) ∧ xw4.cell? ⟨xw1.heap.size, 2, none⟩ = some (.int .i64 f) ∧ xw4.cell? ⟨xw1.heap.size + 1, 0, none⟩ = some (.int .i64 m) ∧ xw4.cell? ⟨xw1.heap.size + 1, 1, none⟩ = some (.slice (some ⟨xw1.heap.size, 0, none⟩) 1 1) := by refine ⟨?_, ?_, ?_, ?_, ?_, ?_, ?_, ?_⟩ <;> (rw [(bcell hbx4).1 _ _ (by first | (simp; done) | (simp; omega) | omega)]; simp [go_sem, World.cell?_alloc_past, *])
  obtain ⟨x4o0, x4n0, x4m0, x4t0_0, x4t0_1, x4o1, x4n1, x4m1, x4t1_0, x4t1_1, x4o2, x4n2, x4m2, x4t2_0, x4t2_1⟩ : w.heap.size < xw4.heap.size ∧ xw4.heap.size ≠ w.heap.size ∧ w.heap.size ≠ xw4.heap.size ∧ w.heap.size < xw4.heap.size + 1 ∧ w.heap.size < xw4.heap.size + 1 + 1 ∧ xw1.heap.size < xw4.heap.size ∧ xw4.heap.size ≠ xw1.heap.size ∧ xw1.heap.size ≠ xw4.heap.size ∧ xw1.heap.size < xw4.heap.size + 1 ∧ xw1.heap.size < xw4.heap.size + 1 + 1 ∧ xw1.heap.size + 1 < xw4.heap.size ∧ xw4.heap.size ≠ xw1.heap.size + 1 ∧ xw1.heap.size + 1 ≠ xw4.heap.size ∧ xw1.heap.size + 1 < xw4.heap.size + 1 ∧ xw1.heap.size + 1 < xw4.heap.size + 1 + 1 := by refine ⟨?_, ?_, ?_, ?_, ?_, ?_, ?_, ?_, ?_, ?_, ?_, ?_, ?_, ?_, ?_⟩ <;> omega
  have hBx4 : Below w.heap.size w xw4 := (by (repeat (first | (with_reducible refine Below.drew ?_) | (with_reducible refine below_drewN ?_ _) | (with_reducible refine Below.alloc ?_ (by first | omega | (simp; done) | (simp; omega) | (simp at *; omega)) _) | (with_reducible refine Below.setCell ?_ (by first | omega | (simp; done) | (simp; omega) | (simp at *; omega)) _) | (with_reducible exact Below.refl _ _) | (with_reducible assumption) | (with_reducible refine Below.trans ?_ (Below.mono (by assumption) (by first | omega | (simp; done) | (simp; omega) | (simp at *; omega)))))))
  clear hbx4 x3_0_0 x3_0_1 x3_0_2 x3_1_0 x3_1_1 x3_1_2 x3_2_0 x3_2_1 x3o0 x3n0 x3m0 x3t0_0 x3t0_1 x3o1 x3n1 x3m1 x3t1_0 x3t1_1 x3o2 x3n2 x3m2 x3t2_0 x3t2_1 hBx3
  clear hS1
  go_upto_region 7 with (fail)
  go_cut [10, 11] from 41 (fun s10 s11 wx => PerR w xw4.heap.size x y s10 s11 wx)
  case first =>
    refine wp_region_held_drew (S := (fun w' => w'.cell? ⟨xw1.heap.size + 1, 0, none⟩ = some (.int .i64 m) ∧ w'.cell? ⟨xw1.heap.size + 1, 1, none⟩ = some (.slice (some ⟨xw1.heap.size, 0, none⟩) 1 1) ∧ w'.cell? ⟨w.heap.size, 1, none⟩ = some (.int .i64 p))) (by kernel_rfl) (by simp [go_sem, World.cell?_alloc_past, *]) (fun hHeld => ?_)
    refine tkH 0 ⟨some 42, _, _, _, _, _⟩ ?_ rfl ?_ (by assumption) ?_
    rotate_left
    · (intro w hSw; (try dsimp only at hSw); go_simp; all_goals with_reducible rfl)
    try simp only [Act.put, sA, sB, sC]
    refine tkH 2 ⟨some 44, _, _, _, _, _⟩ ?_ rfl ?_ (by assumption) ?_
    rotate_left
    · (intro w hSw; (try dsimp only at hSw); go_simp; all_goals with_reducible rfl)
    try simp only [Act.put, sA, sB, sC]
    refine tkH 3 ⟨some 45, _, _, _, _, _⟩ ?_ rfl ?_ (by assumption) ?_
    rotate_left
    · (intro w hSw; (try dsimp only at hSw); go_simp; all_goals with_reducible rfl)
    try simp only [Act.put, sA, sB, sC]
    refine tkH 4 ⟨some 46, _, _, _, _, _⟩ ?_ rfl ?_ (by assumption) ?_
    rotate_left
    · (intro w hSw; (try dsimp only at hSw); go_simp; all_goals with_reducible rfl)
    try simp only [Act.put, sA, sB, sC]
    refine tkH 5 ⟨some 47, _, _, _, _, _⟩ ?_ rfl ?_ (by assumption) ?_
    rotate_left
    · (intro w hSw; (try dsimp only at hSw); go_simp; all_goals with_reducible rfl)
    try simp only [Act.put, sA, sB, sC]
    refine wpAnyH_ready (rs := [1, 10]) (by kernel_rfl) (by simp) ?_
    refine AllReadyH.cons rfl (fun K hK => ?_) (AllReadyH.cons rfl (fun K hK => ?_) (AllReadyH.nil))
    · skip
      go_simp
      refine (own_is m [⟨h, p, f⟩] (some ⟨xw1.heap.size, 0, none⟩) 1 1 _ (Lib.hid rfl) (by decide) (Lib.hid (one_wv _ _ h p f (by first | omega | (simp; done) | (simp; omega)) (by simp [go_sem, World.cell?_alloc_past, *]) (by simp [go_sem, World.cell?_alloc_past, *]) (by simp [go_sem, World.cell?_alloc_past, *]))) (Lib.hid (fun h => by cases h))).mono ?_
      rintro e xw5 ⟨G2, c2, rfl, hS2, hbx5⟩
      have zx5 := hbx5.size
      try simp at zx5
      obtain ⟨x5_0_0, x5_0_1, x5_0_2, x5_1_0, x5_1_1, x5_1_2, x5_2_0, x5_2_1, x5_3_0, x5_3_1⟩ : xw5.cell? ⟨w.heap.size, 0, none⟩ = some (.int .i64 h) ∧ xw5.cell? ⟨w.heap.size, 1, none⟩ = some (.int .i64 p) ∧ xw5.cell? ⟨w.heap.size, 2, none⟩ = some (.int .i64 f) ∧ xw5.cell? ⟨xw1.heap.size, 0, none⟩ = some (.int .i64 h) ∧ xw5.cell? ⟨xw1.heap.size, 1, none⟩ = some (.int .i64 p) ∧ xw5.cell? ⟨xw1.heap.size, 2, none⟩ = some (.int .i64 f) ∧ xw5.cell? ⟨xw1.heap.size + 1, 0, none⟩ = some (.int .i64 m) ∧ xw5.cell? ⟨xw1.heap.size + 1, 1, none⟩ = some (.slice (some ⟨xw1.heap.size, 0, none⟩) 1 1) ∧ xw5.cell? ⟨xw4.heap.size, 0, none⟩ = some (.int .i64 x) ∧ xw5.cell? ⟨xw4.heap.size, 1, none⟩ = some (.int .i64 y) := by refine ⟨?_, ?_, ?_, ?_, ?_, ?_, ?_, ?_, ?_, ?_⟩ <;> (rw [(bcell hbx5).1 _ _ (by first | (simp; done) | (simp; omega) | omega)]; simp [go_sem, World.cell?_alloc_past, *])
      obtain ⟨x5o0, x5n0, x5m0, x5t0_0, x5t0_1, x5o1, x5n1, x5m1, x5t1_0, x5t1_1, x5o2, x5n2, x5m2, x5t2_0, x5t2_1, x5o3, x5n3, x5m3, x5t3_0, x5t3_1⟩ : w.heap.size < xw5.heap.size ∧ xw5.heap.size ≠ w.heap.size ∧ w.heap.size ≠ xw5.heap.size ∧ w.heap.size < xw5.heap.size + 1 ∧ w.heap.size < xw5.heap.size + 1 + 1 ∧ xw1.heap.size < xw5.heap.size ∧ xw5.heap.size ≠ xw1.heap.size ∧ xw1.heap.size ≠ xw5.heap.size ∧ xw1.heap.size < xw5.heap.size + 1 ∧ xw1.heap.size < xw5.heap.size + 1 + 1 ∧ xw1.heap.size + 1 < xw5.heap.size ∧ xw5.heap.size ≠ xw1.heap.size + 1 ∧ xw1.heap.size + 1 ≠ xw5.heap.size ∧ xw1.heap.size + 1 < xw5.heap.size + 1 ∧ xw1.heap.size + 1 < xw5.heap.size + 1 + 1 ∧ xw4.heap.size < xw5.heap.size ∧ xw5.heap.size ≠ xw4.heap.size ∧ xw4.heap.size ≠ xw5.heap.size ∧ xw4.heap.size < xw5.heap.size + 1 ∧ xw4.heap.size < xw5.heap.size + 1 + 1 := by refine ⟨?_, ?_, ?_, ?_, ?_, ?_, ?_, ?_, ?_, ?_, ?_, ?_, ?_, ?_, ?_, ?_, ?_, ?_, ?_, ?_⟩ <;> omega
      have hBx5 : Below w.heap.size w xw5 := (by (repeat (first | (with_reducible refine Below.drew ?_) | (with_reducible refine below_drewN ?_ _) | (with_reducible refine Below.alloc ?_ (by first | omega | (simp; done) | (simp; omega) | (simp at *; omega)) _) | (with_reducible refine Below.setCell ?_ (by first | omega | (simp; done) | (simp; omega) | (simp at *; omega)) _) | (with_reducible exact Below.refl _ _) | (with_reducible assumption) | (with_reducible refine Below.trans ?_ (Below.mono (by assumption) (by first | omega | (simp; done) | (simp; omega) | (simp at *; omega)))))))
      clear hbx5 x4_0_0 x4_0_1 x4_0_2 x4_1_0 x4_1_1 x4_1_2 x4_2_0 x4_2_1 x4o0 x4n0 x4m0 x4t0_0 x4t0_1 x4o1 x4n1 x4m1 x4t1_0 x4t1_1 x4o2 x4n2 x4m2 x4t2_0 x4t2_1 hBx4
      go_wp2_with fail
      refine hK.out _ _ (by simp [go_sem, World.cell?_alloc_past, *]) (fun hHeld => ?_)
      clear hK K
      try simp only [Act.put, sA, sB, sC]
      refine wpAnyH_ready (rs := [6, 10]) (by kernel_rfl) (by simp) ?_
      refine AllReadyH.cons rfl (fun K hK => ?_) (AllReadyH.cons rfl (fun K hK => ?_) (AllReadyH.nil))
      · skip
        go_simp
        refine (LevelAt_good m [⟨h, p, f⟩] G2 c2 1 (t + p) x y _ (Lib.hid rfl) (by decide) (Lib.hid (hS2.below (by (repeat (first | (with_reducible refine Below.drew ?_) | (with_reducible refine below_drewN ?_ _) | (with_reducible refine Below.alloc ?_ (by first | omega | (simp; done) | (simp; omega) | (simp at *; omega)) _) | (with_reducible refine Below.setCell ?_ (by first | omega | (simp; done) | (simp; omega) | (simp at *; omega)) _) | (with_reducible exact Below.refl _ _) | (with_reducible assumption) | (with_reducible refine Below.trans ?_ (Below.mono (by assumption) (by first | omega | (simp; done) | (simp; omega) | (simp at *; omega))))))))) hl2 hx2 hy2).mono ?_
        rintro e xw6 ⟨rfl, hbx6⟩
        have zx6 := hbx6.size
        try simp at zx6
        obtain ⟨x6_0_0, x6_0_1, x6_0_2, x6_1_0, x6_1_1, x6_1_2, x6_2_0, x6_2_1, x6_3_0, x6_3_1⟩ : xw6.cell? ⟨w.heap.size, 0, none⟩ = some (.int .i64 h) ∧ xw6.cell? ⟨w.heap.size, 1, none⟩ = some (.int .i64 p) ∧ xw6.cell? ⟨w.heap.size, 2, none⟩ = some (.int .i64 f) ∧ xw6.cell? ⟨xw1.heap.size, 0, none⟩ = some (.int .i64 h) ∧ xw6.cell? ⟨xw1.heap.size, 1, none⟩ = some (.int .i64 p) ∧ xw6.cell? ⟨xw1.heap.size, 2, none⟩ = some (.int .i64 f) ∧ xw6.cell? ⟨xw1.heap.size + 1, 0, none⟩ = some (.int .i64 m) ∧ xw6.cell? ⟨xw1.heap.size + 1, 1, none⟩ = some (.slice (some ⟨xw1.heap.size, 0, none⟩) 1 1) ∧ xw6.cell? ⟨xw4.heap.size, 0, none⟩ = some (.int .i64 x) ∧ xw6.cell? ⟨xw4.heap.size, 1, none⟩ = some (.int .i64 y) := by refine ⟨?_, ?_, ?_, ?_, ?_, ?_, ?_, ?_, ?_, ?_⟩ <;> (rw [(bcell hbx6).1 _ _ (by first | (simp; done) | (simp; omega) | omega)]; simp [go_sem, World.cell?_alloc_past, *])
        obtain ⟨x6o0, x6n0, x6m0, x6t0_0, x6t0_1, x6o1, x6n1, x6m1, x6t1_0, x6t1_1, x6o2, x6n2, x6m2, x6t2_0, x6t2_1, x6o3, x6n3, x6m3, x6t3_0, x6t3_1⟩ : w.heap.size < xw6.heap.size ∧ xw6.heap.size ≠ w.heap.size ∧ w.heap.size ≠ xw6.heap.size ∧ w.heap.size < xw6.heap.size + 1 ∧ w.heap.size < xw6.heap.size + 1 + 1 ∧ xw1.heap.size < xw6.heap.size ∧ xw6.heap.size ≠ xw1.heap.size ∧ xw1.heap.size ≠ xw6.heap.size ∧ xw1.heap.size < xw6.heap.size + 1 ∧ xw1.heap.size < xw6.heap.size + 1 + 1 ∧ xw1.heap.size + 1 < xw6.heap.size ∧ xw6.heap.size ≠ xw1.heap.size + 1 ∧ xw1.heap.size + 1 ≠ xw6.heap.size ∧ xw1.heap.size + 1 < xw6.heap.size + 1 ∧ xw1.heap.size + 1 < xw6.heap.size + 1 + 1 ∧ xw4.heap.size < xw6.heap.size ∧ xw6.heap.size ≠ xw4.heap.size ∧ xw4.heap.size ≠ xw6.heap.size ∧ xw4.heap.size < xw6.heap.size + 1 ∧ xw4.heap.size < xw6.heap.size + 1 + 1 := by refine ⟨?_, ?_, ?_, ?_, ?_, ?_, ?_, ?_, ?_, ?_, ?_, ?_, ?_, ?_, ?_, ?_, ?_, ?_, ?_, ?_⟩ <;> omega
        have hBx6 : Below w.heap.size w xw6 := (by (repeat (first | (with_reducible refine Below.drew ?_) | (with_reducible refine below_drewN ?_ _) | (with_reducible refine Below.alloc ?_ (by first | omega | (simp; done) | (simp; omega) | (simp at *; omega)) _) | (with_reducible refine Below.setCell ?_ (by first | omega | (simp; done) | (simp; omega) | (simp at *; omega)) _) | (with_reducible exact Below.refl _ _) | (with_reducible assumption) | (with_reducible refine Below.trans ?_ (Below.mono (by assumption) (by first | omega | (simp; done) | (simp; omega) | (simp at *; omega)))))))
        clear hbx6 x5_0_0 x5_0_1 x5_0_2 x5_1_0 x5_1_1 x5_1_2 x5_2_0 x5_2_1 x5_3_0 x5_3_1 x5o0 x5n0 x5m0 x5t0_0 x5t0_1 x5o1 x5n1 x5m1 x5t1_0 x5t1_1 x5o2 x5n2 x5m2 x5t2_0 x5t2_1 x5o3 x5n3 x5m3 x5t3_0 x5t3_1 hBx5
        go_wp2_with fail
        refine hK.out _ _ (by simp [go_sem, World.cell?_alloc_past, *]) (fun hHeld => ?_)
        clear hK K
        try simp only [Act.put, sA, sB, sC]
        refine tkH 7 ⟨some 41, _, _, _, _, _⟩ ?_ rfl ?_ (by assumption) ?_
        rotate_left
        · (intro w hSw; (try dsimp only at hSw); go_simp; all_goals with_reducible rfl)
        try simp only [Act.put, sA, sB, sC]
        refine tkH 8 ⟨some 49, _, _, _, _, _⟩ ?_ rfl ?_ (by assumption) ?_
        rotate_left
        · (intro w hSw; (try dsimp only at hSw); go_simp; all_goals with_reducible rfl)
        try simp only [Act.put, sA, sB, sC]
        refine tkH 9 ⟨some 50, _, _, _, _, _⟩ ?_ rfl ?_ (by assumption) ?_
        rotate_left
        · (intro w hSw; (try dsimp only at hSw); go_simp; all_goals with_reducible rfl)
        try simp only [Act.put, sA, sB, sC]
        refine wpAnyH_ready (rs := [10]) (by kernel_rfl) (by simp) ?_
        refine AllReadyH.cons rfl (fun K hK => ?_) (AllReadyH.nil)
        go_simp
        go_wp2_with fail
        refine hK.out _ _ (by simp [go_sem, World.cell?_alloc_past, *]) (fun hHeld => ?_)
        clear hK K
        try simp only [Act.put, sA, sB, sC]
        refine wpAnyH_ready (rs := [11]) (by kernel_rfl) (by simp) ?_
        refine AllReadyH.cons rfl (fun K hK => ?_) (AllReadyH.nil)
        go_simp
        go_wp2_with fail
        refine hK.out _ _ (by simp [go_sem, World.cell?_alloc_past, *]) (fun hHeld => ?_)
        clear hK K
        try simp only [Act.put, sA, sB, sC]
        refine tkH 12 ⟨some 11, _, _, _, _, _⟩ ?_ rfl ?_ (by assumption) ?_
        rotate_left
        · (intro w hSw; (try dsimp only at hSw); go_simp; all_goals with_reducible rfl)
        try simp only [Act.put, sA, sB, sC]
        refine wpAnyH_done (by kernel_rfl) ?_ _
        go_wp2_with fail
        go_meet
        exact ⟨xw6.heap.size, rfl, rfl, (by simp [go_sem, World.cell?_alloc_past, *]), (by simp [go_sem, World.cell?_alloc_past, *]), (by simp [go_sem, World.cell?_alloc_past, *]), (by simp [go_sem, World.cell?_alloc_past, *]), (by (repeat (first | (with_reducible refine Below.drew ?_) | (with_reducible refine below_drewN ?_ _) | (with_reducible refine Below.alloc ?_ (by first | omega | (simp; done) | (simp; omega) | (simp at *; omega)) _) | (with_reducible refine Below.setCell ?_ (by first | omega | (simp; done) | (simp; omega) | (simp at *; omega)) _) | (with_reducible exact Below.refl _ _) | (with_reducible assumption) | (with_reducible refine Below.trans ?_ (Below.mono (by assumption) (by first | omega | (simp; done) | (simp; omega) | (simp at *; omega)))))))⟩
      · skip
        go_simp
        go_wp2_with fail
        refine hK.out _ _ (by simp [go_sem, World.cell?_alloc_past, *]) (fun hHeld => ?_)
        clear hK K
        try simp only [Act.put, sA, sB, sC]
        refine wpAnyH_ready (rs := [6]) (by kernel_rfl) (by simp) ?_
        refine AllReadyH.cons rfl (fun K hK => ?_) (AllReadyH.nil)
        go_simp
        refine (LevelAt_good m [⟨h, p, f⟩] G2 c2 1 (t + p) x y _ (Lib.hid rfl) (by decide) (Lib.hid (hS2.below (by (repeat (first | (with_reducible refine Below.drew ?_) | (with_reducible refine below_drewN ?_ _) | (with_reducible refine Below.alloc ?_ (by first | omega | (simp; done) | (simp; omega) | (simp at *; omega)) _) | (with_reducible refine Below.setCell ?_ (by first | omega | (simp; done) | (simp; omega) | (simp at *; omega)) _) | (with_reducible exact Below.refl _ _) | (with_reducible assumption) | (with_reducible refine Below.trans ?_ (Below.mono (by assumption) (by first | omega | (simp; done) | (simp; omega) | (simp at *; omega))))))))) hl2 hx2 hy2).mono ?_
        rintro e xw6 ⟨rfl, hbx6⟩
        have zx6 := hbx6.size
        try simp at zx6
        obtain ⟨x6_0_0, x6_0_1, x6_0_2, x6_1_0, x6_1_1, x6_1_2, x6_2_0, x6_2_1, x6_3_0, x6_3_1, x6_4_0, x6_4_1⟩ : xw6.cell? ⟨w.heap.size, 0, none⟩ = some (.int .i64 h) ∧ xw6.cell? ⟨w.heap.size, 1, none⟩ = some (.int .i64 p) ∧ xw6.cell? ⟨w.heap.size, 2, none⟩ = some (.int .i64 f) ∧ xw6.cell? ⟨xw1.heap.size, 0, none⟩ = some (.int .i64 h) ∧ xw6.cell? ⟨xw1.heap.size, 1, none⟩ = some (.int .i64 p) ∧ xw6.cell? ⟨xw1.heap.size, 2, none⟩ = some (.int .i64 f) ∧ xw6.cell? ⟨xw1.heap.size + 1, 0, none⟩ = some (.int .i64 m) ∧ xw6.cell? ⟨xw1.heap.size + 1, 1, none⟩ = some (.slice (some ⟨xw1.heap.size, 0, none⟩) 1 1) ∧ xw6.cell? ⟨xw4.heap.size, 0, none⟩ = some (.int .i64 x) ∧ xw6.cell? ⟨xw4.heap.size, 1, none⟩ = some (.int .i64 y) ∧ xw6.cell? ⟨xw5.heap.size, 0, none⟩ = some (.int .i64 0) ∧ xw6.cell? ⟨xw5.heap.size, 1, none⟩ = some (.int .i64 0) := by refine ⟨?_, ?_, ?_, ?_, ?_, ?_, ?_, ?_, ?_, ?_, ?_, ?_⟩ <;> (rw [(bcell hbx6).1 _ _ (by first | (simp; done) | (simp; omega) | omega)]; simp [go_sem, World.cell?_alloc_past, *])
        have x6f4 : (∀ j, xw6.frozen? ⟨xw5.heap.size, j, none⟩ = false) := by (intro j; rw [(bcell hbx6).2 _ _ (by first | (simp; done) | (simp; omega) | omega)]; simp [go_sem, *])
        obtain ⟨x6o0, x6n0, x6m0, x6t0_0, x6t0_1, x6o1, x6n1, x6m1, x6t1_0, x6t1_1, x6o2, x6n2, x6m2, x6t2_0, x6t2_1, x6o3, x6n3, x6m3, x6t3_0, x6t3_1, x6o4, x6n4, x6m4, x6t4_0, x6t4_1⟩ : w.heap.size < xw6.heap.size ∧ xw6.heap.size ≠ w.heap.size ∧ w.heap.size ≠ xw6.heap.size ∧ w.heap.size < xw6.heap.size + 1 ∧ w.heap.size < xw6.heap.size + 1 + 1 ∧ xw1.heap.size < xw6.heap.size ∧ xw6.heap.size ≠ xw1.heap.size ∧ xw1.heap.size ≠ xw6.heap.size ∧ xw1.heap.size < xw6.heap.size + 1 ∧ xw1.heap.size < xw6.heap.size + 1 + 1 ∧ xw1.heap.size + 1 < xw6.heap.size ∧ xw6.heap.size ≠ xw1.heap.size + 1 ∧ xw1.heap.size + 1 ≠ xw6.heap.size ∧ xw1.heap.size + 1 < xw6.heap.size + 1 ∧ xw1.heap.size + 1 < xw6.heap.size + 1 + 1 ∧ xw4.heap.size < xw6.heap.size ∧ xw6.heap.size ≠ xw4.heap.size ∧ xw4.heap.size ≠ xw6.heap.size ∧ xw4.heap.size < xw6.heap.size + 1 ∧ xw4.heap.size < xw6.heap.size + 1 + 1 ∧ xw5.heap.size < xw6.heap.size ∧ xw6.heap.size ≠ xw5.heap.size ∧ xw5.heap.size ≠ xw6.heap.size ∧ xw5.heap.size < xw6.heap.size + 1 ∧ xw5.heap.size < xw6.heap.size + 1 + 1 := by refine ⟨?_, ?_, ?_, ?_, ?_, ?_, ?_, ?_, ?_, ?_, ?_, ?_, ?_, ?_, ?_, ?_, ?_, ?_, ?_, ?_, ?_, ?_, ?_, ?_, ?_⟩ <;> omega
        have hBx6 : Below w.heap.size w xw6 := (by (repeat (first | (with_reducible refine Below.drew ?_) | (with_reducible refine below_drewN ?_ _) | (with_reducible refine Below.alloc ?_ (by first | omega | (simp; done) | (simp; omega) | (simp at *; omega)) _) | (with_reducible refine Below.setCell ?_ (by first | omega | (simp; done) | (simp; omega) | (simp at *; omega)) _) | (with_reducible exact Below.refl _ _) | (with_reducible assumption) | (with_reducible refine Below.trans ?_ (Below.mono (by assumption) (by first | omega | (simp; done) | (simp; omega) | (simp at *; omega)))))))
        clear hbx6 x5_0_0 x5_0_1 x5_0_2 x5_1_0 x5_1_1 x5_1_2 x5_2_0 x5_2_1 x5_3_0 x5_3_1 x5o0 x5n0 x5m0 x5t0_0 x5t0_1 x5o1 x5n1 x5m1 x5t1_0 x5t1_1 x5o2 x5n2 x5m2 x5t2_0 x5t2_1 x5o3 x5n3 x5m3 x5t3_0 x5t3_1 hBx5
        go_wp2_with fail
        refine hK.out _ _ (by simp [go_sem, World.cell?_alloc_past, *]) (fun hHeld => ?_)
        clear hK K
        try simp only [Act.put, sA, sB, sC]
        refine tkH 7 ⟨some 41, _, _, _, _, _⟩ ?_ rfl ?_ (by assumption) ?_
        rotate_left
        · (intro w hSw; (try dsimp only at hSw); go_simp; all_goals with_reducible rfl)
        try simp only [Act.put, sA, sB, sC]
        refine tkH 8 ⟨some 49, _, _, _, _, _⟩ ?_ rfl ?_ (by assumption) ?_
        rotate_left
        · (intro w hSw; (try dsimp only at hSw); go_simp; all_goals with_reducible rfl)
        try simp only [Act.put, sA, sB, sC]
        refine tkH 9 ⟨some 50, _, _, _, _, _⟩ ?_ rfl ?_ (by assumption) ?_
        rotate_left
        · (intro w hSw; (try dsimp only at hSw); go_simp; all_goals with_reducible rfl)
        try simp only [Act.put, sA, sB, sC]
        refine wpAnyH_ready (rs := [11]) (by kernel_rfl) (by simp) ?_
        refine AllReadyH.cons rfl (fun K hK => ?_) (AllReadyH.nil)
        go_simp
        go_wp2_with fail
        refine hK.out _ _ (by simp [go_sem, World.cell?_alloc_past, *]) (fun hHeld => ?_)
        clear hK K
        try simp only [Act.put, sA, sB, sC]
        refine tkH 12 ⟨some 11, _, _, _, _, _⟩ ?_ rfl ?_ (by assumption) ?_
        rotate_left
        · (intro w hSw; (try dsimp only at hSw); go_simp; all_goals with_reducible rfl)
        try simp only [Act.put, sA, sB, sC]
        refine wpAnyH_done (by kernel_rfl) ?_ _
        go_wp2_with fail
        go_meet
        exact ⟨xw5.heap.size, rfl, rfl, (by simp [go_sem, World.cell?_alloc_past, *]), (by simp [go_sem, World.cell?_alloc_past, *]), (by simp [go_sem, World.cell?_alloc_past, *]), (by simp [go_sem, World.cell?_alloc_past, *]), (by (repeat (first | (with_reducible refine Below.drew ?_) | (with_reducible refine below_drewN ?_ _) | (with_reducible refine Below.alloc ?_ (by first | omega | (simp; done) | (simp; omega) | (simp at *; omega)) _) | (with_reducible refine Below.setCell ?_ (by first | omega | (simp; done) | (simp; omega) | (simp at *; omega)) _) | (with_reducible exact Below.refl _ _) | (with_reducible assumption) | (with_reducible refine Below.trans ?_ (Below.mono (by assumption) (by first | omega | (simp; done) | (simp; omega) | (simp at *; omega)))))))⟩
    · skip
      go_simp
      go_wp2_with fail
      refine hK.out _ _ (by simp [go_sem, World.cell?_alloc_past, *]) (fun hHeld => ?_)
      clear hK K
      try simp only [Act.put, sA, sB, sC]
      refine wpAnyH_ready (rs := [1]) (by kernel_rfl) (by simp) ?_
      refine AllReadyH.cons rfl (fun K hK => ?_) (AllReadyH.nil)
      go_simp
      refine (own_is m [⟨h, p, f⟩] (some ⟨xw1.heap.size, 0, none⟩) 1 1 _ (Lib.hid rfl) (by decide) (Lib.hid (one_wv _ _ h p f (by first | omega | (simp; done) | (simp; omega)) (by simp [go_sem, World.cell?_alloc_past, *]) (by simp [go_sem, World.cell?_alloc_past, *]) (by simp [go_sem, World.cell?_alloc_past, *]))) (Lib.hid (fun h => by cases h))).mono ?_
      rintro e xw5 ⟨G2, c2, rfl, hS2, hbx5⟩
      have zx5 := hbx5.size
      try simp at zx5
      obtain ⟨x5_0_0, x5_0_1, x5_0_2, x5_1_0, x5_1_1, x5_1_2, x5_2_0, x5_2_1, x5_3_0, x5_3_1, x5_4_0, x5_4_1⟩ : xw5.cell? ⟨w.heap.size, 0, none⟩ = some (.int .i64 h) ∧ xw5.cell? ⟨w.heap.size, 1, none⟩ = some (.int .i64 p) ∧ xw5.cell? ⟨w.heap.size, 2, none⟩ = some (.int .i64 f) ∧ xw5.cell? ⟨xw1.heap.size, 0, none⟩ = some (.int .i64 h) ∧ xw5.cell? ⟨xw1.heap.size, 1, none⟩ = some (.int .i64 p) ∧ xw5.cell? ⟨xw1.heap.size, 2, none⟩ = some (.int .i64 f) ∧ xw5.cell? ⟨xw1.heap.size + 1, 0, none⟩ = some (.int .i64 m) ∧ xw5.cell? ⟨xw1.heap.size + 1, 1, none⟩ = some (.slice (some ⟨xw1.heap.size, 0, none⟩) 1 1) ∧ xw5.cell? ⟨xw4.heap.size, 0, none⟩ = some (.int .i64 x) ∧ xw5.cell? ⟨xw4.heap.size, 1, none⟩ = some (.int .i64 y) ∧ xw5.cell? ⟨xw4.heap.size + 1, 0, none⟩ = some (.int .i64 0) ∧ xw5.cell? ⟨xw4.heap.size + 1, 1, none⟩ = some (.int .i64 0) := by refine ⟨?_, ?_, ?_, ?_, ?_, ?_, ?_, ?_, ?_, ?_, ?_, ?_⟩ <;> (rw [(bcell hbx5).1 _ _ (by first | (simp; done) | (simp; omega) | omega)]; simp [go_sem, World.cell?_alloc_past, *])
      have x5f4 : (∀ j, xw5.frozen? ⟨xw4.heap.size + 1, j, none⟩ = false) := by (intro j; rw [(bcell hbx5).2 _ _ (by first | (simp; done) | (simp; omega) | omega)]; simp [go_sem, *])
      obtain ⟨x5o0, x5n0, x5m0, x5t0_0, x5t0_1, x5o1, x5n1, x5m1, x5t1_0, x5t1_1, x5o2, x5n2, x5m2, x5t2_0, x5t2_1, x5o3, x5n3, x5m3, x5t3_0, x5t3_1, x5o4, x5n4, x5m4, x5t4_0, x5t4_1⟩ : w.heap.size < xw5.heap.size ∧ xw5.heap.size ≠ w.heap.size ∧ w.heap.size ≠ xw5.heap.size ∧ w.heap.size < xw5.heap.size + 1 ∧ w.heap.size < xw5.heap.size + 1 + 1 ∧ xw1.heap.size < xw5.heap.size ∧ xw5.heap.size ≠ xw1.heap.size ∧ xw1.heap.size ≠ xw5.heap.size ∧ xw1.heap.size < xw5.heap.size + 1 ∧ xw1.heap.size < xw5.heap.size + 1 + 1 ∧ xw1.heap.size + 1 < xw5.heap.size ∧ xw5.heap.size ≠ xw1.heap.size + 1 ∧ xw1.heap.size + 1 ≠ xw5.heap.size ∧ xw1.heap.size + 1 < xw5.heap.size + 1 ∧ xw1.heap.size + 1 < xw5.heap.size + 1 + 1 ∧ xw4.heap.size < xw5.heap.size ∧ xw5.heap.size ≠ xw4.heap.size ∧ xw4.heap.size ≠ xw5.heap.size ∧ xw4.heap.size < xw5.heap.size + 1 ∧ xw4.heap.size < xw5.heap.size + 1 + 1 ∧ xw4.heap.size + 1 < xw5.heap.size ∧ xw5.heap.size ≠ xw4.heap.size + 1 ∧ xw4.heap.size + 1 ≠ xw5.heap.size ∧ xw4.heap.size + 1 < xw5.heap.size + 1 ∧ xw4.heap.size + 1 < xw5.heap.size + 1 + 1 := by refine ⟨?_, ?_, ?_, ?_, ?_, ?_, ?_, ?_, ?_, ?_, ?_, ?_, ?_, ?_, ?_, ?_, ?_, ?_, ?_, ?_, ?_, ?_, ?_, ?_, ?_⟩ <;> omega
      have hBx5 : Below w.heap.size w xw5 := (by (repeat (first | (with_reducible refine Below.drew ?_) | (with_reducible refine below_drewN ?_ _) | (with_reducible refine Below.alloc ?_ (by first | omega | (simp; done) | (simp; omega) | (simp at *; omega)) _) | (with_reducible refine Below.setCell ?_ (by first | omega | (simp; done) | (simp; omega) | (simp at *; omega)) _) | (with_reducible exact Below.refl _ _) | (with_reducible assumption) | (with_reducible refine Below.trans ?_ (Below.mono (by assumption) (by first | omega | (simp; done) | (simp; omega) | (simp at *; omega)))))))
      clear hbx5 x4_0_0 x4_0_1 x4_0_2 x4_1_0 x4_1_1 x4_1_2 x4_2_0 x4_2_1 x4o0 x4n0 x4m0 x4t0_0 x4t0_1 x4o1 x4n1 x4m1 x4t1_0 x4t1_1 x4o2 x4n2 x4m2 x4t2_0 x4t2_1 hBx4
      go_wp2_with fail
      refine hK.out _ _ (by simp [go_sem, World.cell?_alloc_past, *]) (fun hHeld => ?_)
      clear hK K
      try simp only [Act.put, sA, sB, sC]
      refine wpAnyH_ready (rs := [6]) (by kernel_rfl) (by simp) ?_
      refine AllReadyH.cons rfl (fun K hK => ?_) (AllReadyH.nil)
      go_simp
      refine (LevelAt_good m [⟨h, p, f⟩] G2 c2 1 (t + p) x y _ (Lib.hid rfl) (by decide) (Lib.hid (hS2.below (by (repeat (first | (with_reducible refine Below.drew ?_) | (with_reducible refine below_drewN ?_ _) | (with_reducible refine Below.alloc ?_ (by first | omega | (simp; done) | (simp; omega) | (simp at *; omega)) _) | (with_reducible refine Below.setCell ?_ (by first | omega | (simp; done) | (simp; omega) | (simp at *; omega)) _) | (with_reducible exact Below.refl _ _) | (with_reducible assumption) | (with_reducible refine Below.trans ?_ (Below.mono (by assumption) (by first | omega | (simp; done) | (simp; omega) | (simp at *; omega))))))))) hl2 hx2 hy2).mono ?_
      rintro e xw6 ⟨rfl, hbx6⟩
      have zx6 := hbx6.size
      try simp at zx6
      obtain ⟨x6_0_0, x6_0_1, x6_0_2, x6_1_0, x6_1_1, x6_1_2, x6_2_0, x6_2_1, x6_3_0, x6_3_1, x6_4_0, x6_4_1⟩ : xw6.cell? ⟨w.heap.size, 0, none⟩ = some (.int .i64 h) ∧ xw6.cell? ⟨w.heap.size, 1, none⟩ = some (.int .i64 p) ∧ xw6.cell? ⟨w.heap.size, 2, none⟩ = some (.int .i64 f) ∧ xw6.cell? ⟨xw1.heap.size, 0, none⟩ = some (.int .i64 h) ∧ xw6.cell? ⟨xw1.heap.size, 1, none⟩ = some (.int .i64 p) ∧ xw6.cell? ⟨xw1.heap.size, 2, none⟩ = some (.int .i64 f) ∧ xw6.cell? ⟨xw1.heap.size + 1, 0, none⟩ = some (.int .i64 m) ∧ xw6.cell? ⟨xw1.heap.size + 1, 1, none⟩ = some (.slice (some ⟨xw1.heap.size, 0, none⟩) 1 1) ∧ xw6.cell? ⟨xw4.heap.size, 0, none⟩ = some (.int .i64 x) ∧ xw6.cell? ⟨xw4.heap.size, 1, none⟩ = some (.int .i64 y) ∧ xw6.cell? ⟨xw4.heap.size + 1, 0, none⟩ = some (.int .i64 0) ∧ xw6.cell? ⟨xw4.heap.size + 1, 1, none⟩ = some (.int .i64 0) := by refine ⟨?_, ?_, ?_, ?_, ?_, ?_, ?_, ?_, ?_, ?_, ?_, ?_⟩ <;> (rw [(bcell hbx6).1 _ _ (by first | (simp; done) | (simp; omega) | omega)]; simp [go_sem, World.cell?_alloc_past, *])
      have x6f4 : (∀ j, xw6.frozen? ⟨xw4.heap.size + 1, j, none⟩ = false) := by (intro j; rw [(bcell hbx6).2 _ _ (by first | (simp; done) | (simp; omega) | omega)]; simp [go_sem, *])
      obtain ⟨x6o0, x6n0, x6m0, x6t0_0, x6t0_1, x6o1, x6n1, x6m1, x6t1_0, x6t1_1, x6o2, x6n2, x6m2, x6t2_0, x6t2_1, x6o3, x6n3, x6m3, x6t3_0, x6t3_1, x6o4, x6n4, x6m4, x6t4_0, x6t4_1⟩ : w.heap.size < xw6.heap.size ∧ xw6.heap.size ≠ w.heap.size ∧ w.heap.size ≠ xw6.heap.size ∧ w.heap.size < xw6.heap.size + 1 ∧ w.heap.size < xw6.heap.size + 1 + 1 ∧ xw1.heap.size < xw6.heap.size ∧ xw6.heap.size ≠ xw1.heap.size ∧ xw1.heap.size ≠ xw6.heap.size ∧ xw1.heap.size < xw6.heap.size + 1 ∧ xw1.heap.size < xw6.heap.size + 1 + 1 ∧ xw1.heap.size + 1 < xw6.heap.size ∧ xw6.heap.size ≠ xw1.heap.size + 1 ∧ xw1.heap.size + 1 ≠ xw6.heap.size ∧ xw1.heap.size + 1 < xw6.heap.size + 1 ∧ xw1.heap.size + 1 < xw6.heap.size + 1 + 1 ∧ xw4.heap.size < xw6.heap.size ∧ xw6.heap.size ≠ xw4.heap.size ∧ xw4.heap.size ≠ xw6.heap.size ∧ xw4.heap.size < xw6.heap.size + 1 ∧ xw4.heap.size < xw6.heap.size + 1 + 1 ∧ xw4.heap.size + 1 < xw6.heap.size ∧ xw6.heap.size ≠ xw4.heap.size + 1 ∧ xw4.heap.size + 1 ≠ xw6.heap.size ∧ xw4.heap.size + 1 < xw6.heap.size + 1 ∧ xw4.heap.size + 1 < xw6.heap.size + 1 + 1 := by refine ⟨?_, ?_, ?_, ?_, ?_, ?_, ?_, ?_, ?_, ?_, ?_, ?_, ?_, ?_, ?_, ?_, ?_, ?_, ?_, ?_, ?_, ?_, ?_, ?_, ?_⟩ <;> omega
      have hBx6 : Below w.heap.size w xw6 := (by (repeat (first | (with_reducible refine Below.drew ?_) | (with_reducible refine below_drewN ?_ _) | (with_reducible refine Below.alloc ?_ (by first | omega | (simp; done) | (simp; omega) | (simp at *; omega)) _) | (with_reducible refine Below.setCell ?_ (by first | omega | (simp; done) | (simp; omega) | (simp at *; omega)) _) | (with_reducible exact Below.refl _ _) | (with_reducible assumption) | (with_reducible refine Below.trans ?_ (Below.mono (by assumption) (by first | omega | (simp; done) | (simp; omega) | (simp at *; omega)))))))
      clear hbx6 x5_0_0 x5_0_1 x5_0_2 x5_1_0 x5_1_1 x5_1_2 x5_2_0 x5_2_1 x5_3_0 x5_3_1 x5_4_0 x5_4_1 x5f4 x5o0 x5n0 x5m0 x5t0_0 x5t0_1 x5o1 x5n1 x5m1 x5t1_0 x5t1_1 x5o2 x5n2 x5m2 x5t2_0 x5t2_1 x5o3 x5n3 x5m3 x5t3_0 x5t3_1 x5o4 x5n4 x5m4 x5t4_0 x5t4_1 hBx5
      go_wp2_with fail
      refine hK.out _ _ (by simp [go_sem, World.cell?_alloc_past, *]) (fun hHeld => ?_)
      clear hK K
      try simp only [Act.put, sA, sB, sC]
      refine tkH 7 ⟨some 41, _, _, _, _, _⟩ ?_ rfl ?_ (by assumption) ?_
      rotate_left
      · (intro w hSw; (try dsimp only at hSw); go_simp; all_goals with_reducible rfl)
      try simp only [Act.put, sA, sB, sC]
      refine tkH 8 ⟨some 49, _, _, _, _, _⟩ ?_ rfl ?_ (by assumption) ?_
      rotate_left
      · (intro w hSw; (try dsimp only at hSw); go_simp; all_goals with_reducible rfl)
      try simp only [Act.put, sA, sB, sC]
      refine tkH 9 ⟨some 50, _, _, _, _, _⟩ ?_ rfl ?_ (by assumption) ?_
      rotate_left
      · (intro w hSw; (try dsimp only at hSw); go_simp; all_goals with_reducible rfl)
      try simp only [Act.put, sA, sB, sC]
      refine wpAnyH_ready (rs := [11]) (by kernel_rfl) (by simp) ?_
      refine AllReadyH.cons rfl (fun K hK => ?_) (AllReadyH.nil)
      go_simp
      go_wp2_with fail
      refine hK.out _ _ (by simp [go_sem, World.cell?_alloc_past, *]) (fun hHeld => ?_)
      clear hK K
      try simp only [Act.put, sA, sB, sC]
      refine tkH 12 ⟨some 11, _, _, _, _, _⟩ ?_ rfl ?_ (by assumption) ?_
      rotate_left
      · (intro w hSw; (try dsimp only at hSw); go_simp; all_goals with_reducible rfl)
      try simp only [Act.put, sA, sB, sC]
      refine wpAnyH_done (by kernel_rfl) ?_ _
      go_wp2_with fail
      go_meet
      exact ⟨xw4.heap.size + 1, rfl, rfl, (by simp [go_sem, World.cell?_alloc_past, *]), (by simp [go_sem, World.cell?_alloc_past, *]), (by simp [go_sem, World.cell?_alloc_past, *]), (by simp [go_sem, World.cell?_alloc_past, *]), (by (repeat (first | (with_reducible refine Below.drew ?_) | (with_reducible refine below_drewN ?_ _) | (with_reducible refine Below.alloc ?_ (by first | omega | (simp; done) | (simp; omega) | (simp at *; omega)) _) | (with_reducible refine Below.setCell ?_ (by first | omega | (simp; done) | (simp; omega) | (simp at *; omega)) _) | (with_reducible exact Below.refl _ _) | (with_reducible assumption) | (with_reducible refine Below.trans ?_ (Below.mono (by assumption) (by first | omega | (simp; done) | (simp; omega) | (simp at *; omega)))))))⟩
  case rest =>
    obtain ⟨b, rfl, rfl, c0, c1, c2, c3, hB⟩ := hcut
    go_wp2
    go_ret
    exact ⟨rfl, hB⟩
theorem sitePeriods_any (m h p f t : Int) (w : World) :
    Calls Tryz.prog 6 #[.int .i64 m, .agg #[.int .i64 h, .int .i64 p, .int .i64 f], .int .i64 t] w fun e w' => e = .returned (.bool true) ∧ Below w.heap.size w w' := by
  by_cases h1 : tidE m [⟨h, p, f⟩] = 0
  · rcases inB_cases t 0 1000000 with h2 | h2
    · have hw := (tidE_ok h1).2.2.2 _ (List.mem_singleton.2 rfl)
      have p0 := hw.p0
      have p1 := hw.p1
      obtain ⟨t0, t1⟩ := inB_iff.1 h2
      rcases inB_cases (t + p) 0 1000000 with h3 | h3
      · obtain ⟨l1, l2⟩ := lev_per m ⟨h, p, f⟩ t
        exact sitePer_g m h p f t _ _ w (Lib.hid h1) p0 p1 t0 t1 (Lib.hid h2) (Lib.hid h3) (Lib.hid rfl) (Lib.hid rfl) (Lib.hid l1) (Lib.hid l2)
      · exact sitePer_p m h p f t w (Lib.hid h1) p0 p1 t0 t1 (Lib.hid h2) (Lib.hid h3)
    · exact sitePer_t m h p f t w (Lib.hid h1) (Lib.hid h2)
  · exact sitePer_e m h p f t _ w (Lib.hid rfl) (by simpa using h1)
end Go.Proofs.YtallnjehhoengaaGreat
