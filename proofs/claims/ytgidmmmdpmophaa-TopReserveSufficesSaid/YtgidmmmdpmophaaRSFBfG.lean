import Derived.Test.YtgidmmmdpmophaaRSFBfF
import Derived.Outline
namespace Go.Proofs.Ytgidmmmdpmophaa
open Go.ChangeShapes Go.WideShapes Go.ChangeAt Go.RowKit
set_option linter.unusedVariables false
set_option linter.unusedSimpArgs false
attribute [local go_sem ↓] Go.wp_at_zero Go.wp_at_succ
set_option maxRecDepth 100000 in
set_option maxHeartbeats 4000000 in
theorem Before_form (nm : ByteArray) (s : Int) (G : List Ga) (D : List Le) (gb gf lb lf : Nat) (gn gc dn dc : Nat) (N : Nat) (kk : Nat) (t xa ya xb yb num den lo hi : Int)  (w : World) (hz : nm.size ≤ 9223372036854775807) (hgn : Hid (gn = G.length)) (hgl : gn ≤ 9223372036854775807) (hdn : Hid (dn = D.length)) (hdl : dn ≤ 9223372036854775807) (hG : Hid (SlRows gaV 2 w (some ⟨gb, gf, none⟩) G)) (hD : Hid (SlRows leV 3 w (some ⟨lb, lf, none⟩) D)) (hE0 : Hid (plnP nm s G D = (N, 0))) (hok : Hid (PlnOk nm s G D)) (ht0 : 0 ≤ t) (ht1 : t ≤ secT D dn) (hk : kk < dn) (hk2 : Hid (∀ j, j < kk → secT D (j + 1) < t)) (hk3 : Hid (t ≤ secT D (kk + 1))) (hxa : Hid (((ptL D (dn + 1)).getD kk default).s = xa)) (hya : Hid (((ptL D (dn + 1)).getD kk default).d = ya)) (hxb : Hid (((ptL D (dn + 1)).getD (kk + 1) default).s = xb)) (hyb : Hid (((ptL D (dn + 1)).getD (kk + 1) default).d = yb)) (a0 : 0 ≤ xa) (a1 : xa ≤ t) (a2 : t ≤ xb) (a3 : xb ≤ 1000000) (ax : xa < xb) (e0 : 0 ≤ ya) (e1 : ya ≤ 30000) (f0 : 0 ≤ yb) (f1 : yb ≤ 30000) (hnum : Hid (ya * (xb - t) + yb * (t - xa) = num)) (hden : Hid (xb - xa = den)) (hlo : Hid (num / den = lo)) (hhi : Hid (upE num den = hi)) (hn0 : 0 ≤ num) (hn1 : num ≤ 60000000000) (hwh : Hid (decide (num % den = 0) = false)) : Calls Try.prog 18 #[.agg #[.string nm, .int .i64 s, .slice (some ⟨gb, gf, none⟩) gn gc, .slice (some ⟨lb, lf, none⟩) dn dc], .int .i64 t] w fun e w' => e = .returned (.tuple #[.agg #[.string ⟨#[]⟩, .int .i64 0, .slice none 0 0, .slice none 0 0], .int .i64 3]) ∧ Below w.heap.size w w' := by
  have g8 : gn ≤ 8 := by have := hok.out.g8; have := hgn.out; omega
  have d60 : dn ≤ 60 := by have := hok.out.d6; have := hdn.out; omega
  have hdb : 1 ≤ den ∧ den ≤ 1000000 := by have := hden.out; omega
  go_enter Try.func18, Try.ntmps18
  go_wp2_with fail
  refine (pointsTo_ok nm s G D (some ⟨gb, gf, none⟩) (some ⟨lb, lf, none⟩) gn gc dn dc N t _ hz hgn hgl hdn hdl (Lib.hid (hG.out.below (by (repeat (first | (with_reducible refine Below.drew ?_) | (with_reducible refine below_drewN ?_ _) | (with_reducible refine Below.alloc ?_ (by first | omega | (simp; done) | (simp; omega) | (simp at *; omega)) _) | (with_reducible refine Below.setCell ?_ (by first | omega | (simp; done) | (simp; omega) | (simp at *; omega)) _) | (with_reducible exact Below.refl _ _) | (with_reducible assumption) | (with_reducible refine Below.trans ?_ (Below.mono (by assumption) (by first | omega | (simp; done) | (simp; omega) | (simp at *; omega))))))))) (Lib.hid (hD.out.below (by (repeat (first | (with_reducible refine Below.drew ?_) | (with_reducible refine below_drewN ?_ _) | (with_reducible refine Below.alloc ?_ (by first | omega | (simp; done) | (simp; omega) | (simp at *; omega)) _) | (with_reducible refine Below.setCell ?_ (by first | omega | (simp; done) | (simp; omega) | (simp at *; omega)) _) | (with_reducible exact Below.refl _ _) | (with_reducible assumption) | (with_reducible refine Below.trans ?_ (Below.mono (by assumption) (by first | omega | (simp; done) | (simp; omega) | (simp at *; omega))))))))) hE0 hok ht0 ht1).mono ?_
  rintro e x1 ⟨pb, po, pc, rfl, hsp, hcp, hpb, hb1⟩
  have hc1 : Below w.heap.size w x1 := (((Below.refl _ _).alloc (by first | exact Nat.le_refl _ | (simp; done) | (simp; omega)) _).alloc (by first | exact Nat.le_refl _ | (simp; done) | (simp; omega)) _).trans (hb1.mono (by first | exact Nat.le_refl _ | (simp; done) | (simp; omega)))
  have hB1 : Below w.heap.size w x1 := hc1
  have zu1 := hB1.size
  have PB : Hid (BlkF x1 w.heap.size (w.heap.size) [.string nm, .int .i64 s, .slice (some ⟨gb, gf, none⟩) gn gc, .slice (some ⟨lb, lf, none⟩) dn dc]) := Lib.hid (((BlkF.made (B := w.heap.size) w [.string nm, .int .i64 s, .slice (some ⟨gb, gf, none⟩) gn gc, .slice (some ⟨lb, lf, none⟩) dn dc] 25 (by first | exact Nat.le_refl _ | (simp; done) | (simp; omega))).below ((Below.refl _ _).alloc (Nat.le_refl _) _)).below hb1)
  have zPB1 := PB.out.lt
  have ZB : Hid (BlkF x1 w.heap.size (w.heap.size + 1) [.string ⟨#[]⟩, .int .i64 0, .slice none 0 0, .slice none 0 0]) := Lib.hid (by have := (BlkF.made (B := w.heap.size) (w.alloc (.cells #[.string nm, .int .i64 s, .slice (some ⟨gb, gf, none⟩) gn gc, .slice (some ⟨lb, lf, none⟩) dn dc] 25)) [.string ⟨#[]⟩, .int .i64 0, .slice none 0 0, .slice none 0 0] 25 (by first | exact Nat.le_refl _ | (simp; done) | (simp; omega))).below hb1; simpa using this)
  have zZB1 := ZB.out.lt
  have HP := Lib.hid hsp
  clear hsp
  clear hb1
  obtain ⟨PB_1_0, PB_1_1, PB_1_2, PB_1_3⟩ := b4 PB.out
  have lPB_1 := PB.out.lt
  have nPB_1 : x1.heap.size ≠ w.heap.size := by omega
  have mPB_1 : w.heap.size ≠ x1.heap.size := by omega
  obtain ⟨ZB_1_0, ZB_1_1, ZB_1_2, ZB_1_3⟩ := b4 ZB.out
  have lZB_1 := ZB.out.lt
  have nZB_1 : x1.heap.size ≠ w.heap.size + 1 := by omega
  have mZB_1 : w.heap.size + 1 ≠ x1.heap.size := by omega
  have hpl : pb < x1.heap.size := by rcases HP.out with h | ⟨b, o, e, hl, _⟩; (have := congrArg List.length h; rw [ptL_len] at this; simp at this); (cases e; exact hl)
  go_wp2_with fail
  refine (depthOn_is D pb po dn pc kk t xa ya xb yb num den _ (by omega) hpl (Lib.hid (HP.out.below (by (repeat (first | (with_reducible refine Below.drew ?_) | (with_reducible refine below_drewN ?_ _) | (with_reducible refine Below.alloc ?_ (by first | omega | (simp; done) | (simp; omega) | (simp at *; omega)) _) | (with_reducible refine Below.setCell ?_ (by first | omega | (simp; done) | (simp; omega) | (simp at *; omega)) _) | (with_reducible exact Below.refl _ _) | (with_reducible assumption) | (with_reducible refine Below.trans ?_ (Below.mono (by assumption) (by first | omega | (simp; done) | (simp; omega) | (simp at *; omega))))))))) hcp hk hk2 hk3 hxa hya hxb hyb a0 a1 a2 a3 e0 e1 f0 f1 hnum hden).mono ?_
  rintro e x2 ⟨rfl, hb2⟩
  have hc2 : Below x1.heap.size x1 x2 := hb2
  have hB2 : Below w.heap.size w x2 := hB1.trans (hc2.mono hB1.size)
  have zu2 := hB2.size
  replace HP := Lib.hid (HP.out.below hc2)
  replace PB := Lib.hid (PB.out.below hc2)
  replace ZB := Lib.hid (ZB.out.below hc2)
  clear PB_1_0 PB_1_1 PB_1_2 PB_1_3 lPB_1 nPB_1 mPB_1 ZB_1_0 ZB_1_1 ZB_1_2 ZB_1_3 lZB_1 nZB_1 mZB_1
  clear hb2 hB1 zu1 hc1
  obtain ⟨PB_2_0, PB_2_1, PB_2_2, PB_2_3⟩ := b4 PB.out
  have lPB_2 := PB.out.lt
  have nPB_2 : x2.heap.size ≠ w.heap.size := by omega
  have mPB_2 : w.heap.size ≠ x2.heap.size := by omega
  obtain ⟨ZB_2_0, ZB_2_1, ZB_2_2, ZB_2_3⟩ := b4 ZB.out
  have lZB_2 := ZB.out.lt
  have nZB_2 : x2.heap.size ≠ w.heap.size + 1 := by omega
  have mZB_2 : w.heap.size + 1 ≠ x2.heap.size := by omega
  go_wp2_with fail
  refine (ratWhole_is num den false _ hn0 (by omega) hdb.1 (by omega) hwh).mono ?_
  rintro e x3 ⟨rfl, hb3⟩
  have hc3 : Below x2.heap.size x2 x3 := ((Below.refl _ _).alloc (by first | exact Nat.le_refl _ | (simp; done) | (simp; omega)) _).trans (hb3.mono (by first | exact Nat.le_refl _ | (simp; done) | (simp; omega)))
  have hB3 : Below w.heap.size w x3 := hB2.trans (hc3.mono hB2.size)
  have zu3 := hB3.size
  replace HP := Lib.hid (HP.out.below hc3)
  replace PB := Lib.hid (PB.out.below hc3)
  replace ZB := Lib.hid (ZB.out.below hc3)
  have QB : Hid (BlkF x3 w.heap.size (x2.heap.size) [.int .i64 num, .int .i64 den]) := Lib.hid ((BlkF.made (B := w.heap.size) x2 [.int .i64 num, .int .i64 den] 82 (by first | exact Nat.le_refl _ | exact hB2.size | (simp; done) | (simp; omega))).below hb3)
  have zQB3 := QB.out.lt
  clear PB_2_0 PB_2_1 PB_2_2 PB_2_3 lPB_2 nPB_2 mPB_2 ZB_2_0 ZB_2_1 ZB_2_2 ZB_2_3 lZB_2 nZB_2 mZB_2
  clear hb3 hB2 zu2 hc2
  obtain ⟨PB_3_0, PB_3_1, PB_3_2, PB_3_3⟩ := b4 PB.out
  have lPB_3 := PB.out.lt
  have nPB_3 : x3.heap.size ≠ w.heap.size := by omega
  have mPB_3 : w.heap.size ≠ x3.heap.size := by omega
  obtain ⟨ZB_3_0, ZB_3_1, ZB_3_2, ZB_3_3⟩ := b4 ZB.out
  have lZB_3 := ZB.out.lt
  have nZB_3 : x3.heap.size ≠ w.heap.size + 1 := by omega
  have mZB_3 : w.heap.size + 1 ≠ x3.heap.size := by omega
  obtain ⟨QB_3_0, QB_3_1⟩ := b2 QB.out
  have lQB_3 := QB.out.lt
  have nQB_3 : x3.heap.size ≠ x2.heap.size := by omega
  have mQB_3 : x2.heap.size ≠ x3.heap.size := by omega
  have zf := ZB.out.fz
  go_wp2
  refine bodyPost_ret (v := .tuple #[.agg #[.string ⟨#[]⟩, .int .i64 0, .slice none 0 0, .slice none 0 0], .int .i64 3]) (by simp [results, Try.results18, go_sem, *]) rfl ⟨rfl, ?_⟩
  exact stW_below (by omega) [.string ⟨#[]⟩, .int .i64 0, .slice none 0 0, .slice none 0 0] _ 0 hB3
theorem pt_leD {L : List Le} {k : Nat} (h : k < L.length) : L.getD k default = L[k] := getD_leE h
theorem fldR0 (x y : Int) (w : World) : (Instr.field 46 (.agg #[.int .i64 x, .int .i64 y]) 0).run Try.prog w = .ok (.int .i64 x) w := by kernel_rfl
theorem sl_lowB {α : Type} {f : α → List Value} {n b o M : Nat} {u u' : World} {L : List α} (h : SlRows f n u (some ⟨b, o, none⟩) L) (hb : Below M u u') (hm : b < M) : SlRows f n u' (some ⟨b, o, none⟩) L := by
  rcases h with h | ⟨c, off, e, hl, hR⟩
  · exact Or.inl h
  · cases e
    exact Or.inr ⟨b, o, rfl, Nat.lt_of_lt_of_le hl hb.size, fun k hk i hi => (World.cell?_of_block (a := ⟨b, _, none⟩) (hb.block b hm)).trans (hR k hk i hi)⟩
theorem own_stW {u : World} {b M : Nat} {e : TypeId} {size n : Nat} {v : Value} {xs : List Value} (h : u.ownsRow M e size v n xs) (hb : v.ownBlock ≠ some b) (l : List Value) (i : Nat) : (stW u b i l).ownsRow M e size v n xs := by
  rcases h with ⟨h1, h2 | ⟨g, cap, cur, rfl, h3, h4, h5⟩⟩
  · exact ⟨h1, Or.inl h2⟩
  · exact ⟨h1, Or.inr ⟨g, cap, cur, rfl, h3, (stW_other b (fun e => hb (by rw [e]; rfl)) l u i).trans h4, h5⟩⟩
set_option maxRecDepth 100000 in
set_option maxHeartbeats 4000000 in
theorem Before_ok (nm : ByteArray) (s : Int) (G : List Ga) (D : List Le) (gb gf lb lf : Nat) (gn gc dn dc : Nat) (N : Nat) (kk : Nat) (t xa ya xb yb num den lo hi : Int) (nb : Nat) (DB : List Le) (w : World) (hz : nm.size ≤ 9223372036854775807) (hgn : Hid (gn = G.length)) (hgl : gn ≤ 9223372036854775807) (hdn : Hid (dn = D.length)) (hdl : dn ≤ 9223372036854775807) (hG : Hid (SlRows gaV 2 w (some ⟨gb, gf, none⟩) G)) (hD : Hid (SlRows leV 3 w (some ⟨lb, lf, none⟩) D)) (hE0 : Hid (plnP nm s G D = (N, 0))) (hok : Hid (PlnOk nm s G D)) (ht0 : 0 ≤ t) (ht1 : t ≤ secT D dn) (hk : kk < dn) (hk2 : Hid (∀ j, j < kk → secT D (j + 1) < t)) (hk3 : Hid (t ≤ secT D (kk + 1))) (hxa : Hid (((ptL D (dn + 1)).getD kk default).s = xa)) (hya : Hid (((ptL D (dn + 1)).getD kk default).d = ya)) (hxb : Hid (((ptL D (dn + 1)).getD (kk + 1) default).s = xb)) (hyb : Hid (((ptL D (dn + 1)).getD (kk + 1) default).d = yb)) (a0 : 0 ≤ xa) (a1 : xa ≤ t) (a2 : t ≤ xb) (a3 : xb ≤ 1000000) (ax : xa < xb) (e0 : 0 ≤ ya) (e1 : ya ≤ 30000) (f0 : 0 ≤ yb) (f1 : yb ≤ 30000) (hnum : Hid (ya * (xb - t) + yb * (t - xa) = num)) (hden : Hid (xb - xa = den)) (hlo : Hid (num / den = lo)) (hhi : Hid (upE num den = hi)) (hn0 : 0 ≤ num) (hn1 : num ≤ 60000000000) (hwh : Hid (decide (num % den = 0) = true)) (hnb : Hid (nb = DB.length)) (hnd : nb ≤ dn) (hbeg : Hid (∀ k, k < nb → secT D k < t)) (hend : Hid (nb < dn → t ≤ secT D nb)) (hcut : Hid (∀ k, k < nb → t < secT D (k + 1) → DB.getD k default = ⟨t - secT D k, lo, (D.getD k default).g⟩)) (hfull : Hid (∀ k, k < nb → secT D (k + 1) ≤ t → DB.getD k default = D.getD k default)) : Calls Try.prog 18 #[.agg #[.string nm, .int .i64 s, .slice (some ⟨gb, gf, none⟩) gn gc, .slice (some ⟨lb, lf, none⟩) dn dc], .int .i64 t] w fun e w' => ∃ G9 cg L9 cl, e = .returned (.tuple #[.agg #[.string nm, .int .i64 s, .slice G9 gn cg, .slice L9 nb cl], .int .i64 0]) ∧ SlRows gaV 2 w' G9 G ∧ SlRows leV 3 w' L9 DB ∧ Below w.heap.size w w' := by
  obtain ⟨i0, hi, hz0', hz1', hz2'⟩ := info_partsG infoLeK
  have HI := Lib.hid hi
  have HZ0 := Lib.hid hz0'
  have HZ1 := Lib.hid hz1'
  have HZ2 := Lib.hid hz2'
  clear hi hz0' hz1' hz2'
  have g8 : gn ≤ 8 := by have := hok.out.g8; have := hgn.out; omega
  have d60 : dn ≤ 60 := by have := hok.out.d6; have := hdn.out; omega
  have hdb : 1 ≤ den ∧ den ≤ 1000000 := by have := hden.out; omega
  go_enter Try.func18, Try.ntmps18
  go_wp2_with fail
  refine (pointsTo_ok nm s G D (some ⟨gb, gf, none⟩) (some ⟨lb, lf, none⟩) gn gc dn dc N t _ hz hgn hgl hdn hdl (Lib.hid (hG.out.below (by (repeat (first | (with_reducible refine Below.drew ?_) | (with_reducible refine below_drewN ?_ _) | (with_reducible refine Below.alloc ?_ (by first | omega | (simp; done) | (simp; omega) | (simp at *; omega)) _) | (with_reducible refine Below.setCell ?_ (by first | omega | (simp; done) | (simp; omega) | (simp at *; omega)) _) | (with_reducible exact Below.refl _ _) | (with_reducible assumption) | (with_reducible refine Below.trans ?_ (Below.mono (by assumption) (by first | omega | (simp; done) | (simp; omega) | (simp at *; omega))))))))) (Lib.hid (hD.out.below (by (repeat (first | (with_reducible refine Below.drew ?_) | (with_reducible refine below_drewN ?_ _) | (with_reducible refine Below.alloc ?_ (by first | omega | (simp; done) | (simp; omega) | (simp at *; omega)) _) | (with_reducible refine Below.setCell ?_ (by first | omega | (simp; done) | (simp; omega) | (simp at *; omega)) _) | (with_reducible exact Below.refl _ _) | (with_reducible assumption) | (with_reducible refine Below.trans ?_ (Below.mono (by assumption) (by first | omega | (simp; done) | (simp; omega) | (simp at *; omega))))))))) hE0 hok ht0 ht1).mono ?_
  rintro e x1 ⟨pb, po, pc, rfl, hsp, hcp, hpb, hb1⟩
  have hc1 : Below w.heap.size w x1 := (((Below.refl _ _).alloc (by first | exact Nat.le_refl _ | (simp; done) | (simp; omega)) _).alloc (by first | exact Nat.le_refl _ | (simp; done) | (simp; omega)) _).trans (hb1.mono (by first | exact Nat.le_refl _ | (simp; done) | (simp; omega)))
  have hB1 : Below w.heap.size w x1 := hc1
  have zu1 := hB1.size
  have PB : Hid (BlkF x1 w.heap.size (w.heap.size) [.string nm, .int .i64 s, .slice (some ⟨gb, gf, none⟩) gn gc, .slice (some ⟨lb, lf, none⟩) dn dc]) := Lib.hid (((BlkF.made (B := w.heap.size) w [.string nm, .int .i64 s, .slice (some ⟨gb, gf, none⟩) gn gc, .slice (some ⟨lb, lf, none⟩) dn dc] 25 (by first | exact Nat.le_refl _ | (simp; done) | (simp; omega))).below ((Below.refl _ _).alloc (Nat.le_refl _) _)).below hb1)
  have zPB1 := PB.out.lt
  have ZB : Hid (BlkF x1 w.heap.size (w.heap.size + 1) [.string ⟨#[]⟩, .int .i64 0, .slice none 0 0, .slice none 0 0]) := Lib.hid (by have := (BlkF.made (B := w.heap.size) (w.alloc (.cells #[.string nm, .int .i64 s, .slice (some ⟨gb, gf, none⟩) gn gc, .slice (some ⟨lb, lf, none⟩) dn dc] 25)) [.string ⟨#[]⟩, .int .i64 0, .slice none 0 0, .slice none 0 0] 25 (by first | exact Nat.le_refl _ | (simp; done) | (simp; omega))).below hb1; simpa using this)
  have zZB1 := ZB.out.lt
  have HP := Lib.hid hsp
  clear hsp
  clear hb1
  obtain ⟨PB_1_0, PB_1_1, PB_1_2, PB_1_3⟩ := b4 PB.out
  have lPB_1 := PB.out.lt
  have nPB_1 : x1.heap.size ≠ w.heap.size := by omega
  have mPB_1 : w.heap.size ≠ x1.heap.size := by omega
  obtain ⟨ZB_1_0, ZB_1_1, ZB_1_2, ZB_1_3⟩ := b4 ZB.out
  have lZB_1 := ZB.out.lt
  have nZB_1 : x1.heap.size ≠ w.heap.size + 1 := by omega
  have mZB_1 : w.heap.size + 1 ≠ x1.heap.size := by omega
  have hpl : pb < x1.heap.size := by rcases HP.out with h | ⟨b, o, e, hl, _⟩; (have := congrArg List.length h; rw [ptL_len] at this; simp at this); (cases e; exact hl)
  go_wp2_with fail
  refine (depthOn_is D pb po dn pc kk t xa ya xb yb num den _ (by omega) hpl (Lib.hid (HP.out.below (by (repeat (first | (with_reducible refine Below.drew ?_) | (with_reducible refine below_drewN ?_ _) | (with_reducible refine Below.alloc ?_ (by first | omega | (simp; done) | (simp; omega) | (simp at *; omega)) _) | (with_reducible refine Below.setCell ?_ (by first | omega | (simp; done) | (simp; omega) | (simp at *; omega)) _) | (with_reducible exact Below.refl _ _) | (with_reducible assumption) | (with_reducible refine Below.trans ?_ (Below.mono (by assumption) (by first | omega | (simp; done) | (simp; omega) | (simp at *; omega))))))))) hcp hk hk2 hk3 hxa hya hxb hyb a0 a1 a2 a3 e0 e1 f0 f1 hnum hden).mono ?_
  rintro e x2 ⟨rfl, hb2⟩
  have hc2 : Below x1.heap.size x1 x2 := hb2
  have hB2 : Below w.heap.size w x2 := hB1.trans (hc2.mono hB1.size)
  have zu2 := hB2.size
  replace HP := Lib.hid (HP.out.below hc2)
  replace PB := Lib.hid (PB.out.below hc2)
  replace ZB := Lib.hid (ZB.out.below hc2)
  clear PB_1_0 PB_1_1 PB_1_2 PB_1_3 lPB_1 nPB_1 mPB_1 ZB_1_0 ZB_1_1 ZB_1_2 ZB_1_3 lZB_1 nZB_1 mZB_1
  clear hb2 hB1 zu1 hc1
  obtain ⟨PB_2_0, PB_2_1, PB_2_2, PB_2_3⟩ := b4 PB.out
  have lPB_2 := PB.out.lt
  have nPB_2 : x2.heap.size ≠ w.heap.size := by omega
  have mPB_2 : w.heap.size ≠ x2.heap.size := by omega
  obtain ⟨ZB_2_0, ZB_2_1, ZB_2_2, ZB_2_3⟩ := b4 ZB.out
  have lZB_2 := ZB.out.lt
  have nZB_2 : x2.heap.size ≠ w.heap.size + 1 := by omega
  have mZB_2 : w.heap.size + 1 ≠ x2.heap.size := by omega
  go_wp2_with fail
  refine (ratWhole_is num den true _ hn0 (by omega) hdb.1 (by omega) hwh).mono ?_
  rintro e x3 ⟨rfl, hb3⟩
  have hc3 : Below x2.heap.size x2 x3 := ((Below.refl _ _).alloc (by first | exact Nat.le_refl _ | (simp; done) | (simp; omega)) _).trans (hb3.mono (by first | exact Nat.le_refl _ | (simp; done) | (simp; omega)))
  have hB3 : Below w.heap.size w x3 := hB2.trans (hc3.mono hB2.size)
  have zu3 := hB3.size
  replace HP := Lib.hid (HP.out.below hc3)
  replace PB := Lib.hid (PB.out.below hc3)
  replace ZB := Lib.hid (ZB.out.below hc3)
  have QB : Hid (BlkF x3 w.heap.size (x2.heap.size) [.int .i64 num, .int .i64 den]) := Lib.hid ((BlkF.made (B := w.heap.size) x2 [.int .i64 num, .int .i64 den] 82 (by first | exact Nat.le_refl _ | exact hB2.size | (simp; done) | (simp; omega))).below hb3)
  have zQB3 := QB.out.lt
  clear PB_2_0 PB_2_1 PB_2_2 PB_2_3 lPB_2 nPB_2 mPB_2 ZB_2_0 ZB_2_1 ZB_2_2 ZB_2_3 lZB_2 nZB_2 mZB_2
  clear hb3 hB2 zu2 hc2
  obtain ⟨PB_3_0, PB_3_1, PB_3_2, PB_3_3⟩ := b4 PB.out
  have lPB_3 := PB.out.lt
  have nPB_3 : x3.heap.size ≠ w.heap.size := by omega
  have mPB_3 : w.heap.size ≠ x3.heap.size := by omega
  obtain ⟨ZB_3_0, ZB_3_1, ZB_3_2, ZB_3_3⟩ := b4 ZB.out
  have lZB_3 := ZB.out.lt
  have nZB_3 : x3.heap.size ≠ w.heap.size + 1 := by omega
  have mZB_3 : w.heap.size + 1 ≠ x3.heap.size := by omega
  obtain ⟨QB_3_0, QB_3_1⟩ := b2 QB.out
  have lQB_3 := QB.out.lt
  have nQB_3 : x3.heap.size ≠ x2.heap.size := by omega
  have mQB_3 : x2.heap.size ≠ x3.heap.size := by omega
  clear PB_3_0 PB_3_1 PB_3_2 PB_3_3 lPB_3 nPB_3 mPB_3 ZB_3_0 ZB_3_1 ZB_3_2 ZB_3_3 lZB_3 nZB_3 mZB_3 QB_3_0 QB_3_1 lQB_3 nQB_3 mQB_3
  obtain ⟨qb, hqb⟩ : ∃ z, x2.heap.size = z := ⟨_, rfl⟩
  rw [hqb] at QB
  try rw [hqb]
  obtain ⟨M, hM⟩ : ∃ z, x3.heap.size = z := ⟨_, rfl⟩
  have lPM := PB.out.lt
  have lZM := ZB.out.lt
  have lQM := QB.out.lt
  have lpM : pb < x3.heap.size := by rcases HP.out with h | ⟨b, o, e, hl, _⟩; (have := congrArg List.length h; rw [ptL_len] at this; simp at this); (cases e; exact hl)
  rw [hM] at lPM lZM lQM lpM
  have HBX := Lib.hid hB3
  have hMX : M ≤ x3.heap.size := by omega
  have hwM : w.heap.size + 2 ≤ M := by omega
  obtain ⟨p0, p1, p2, p3⟩ := b4 PB.out
  clear hB3 zu3 hc3 hM hqb
  go_wp2_with fail
  go_loopw [9, 34] (fun v i wr => ∃ (k : Nat) (C : Option Addr) (cm : Nat), k ≤ nb ∧ i = .int .i64 k ∧ v = .slice C k cm ∧ Hid (wr.ownsRow M 64 3 (.slice C k cm) k (rowsV leV (DB.take k))) ∧ Hid (BlkF wr w.heap.size w.heap.size [.string nm, .int .i64 s, .slice (some ⟨gb, gf, none⟩) gn gc, .slice (some ⟨lb, lf, none⟩) dn dc]) ∧ Hid (BlkF wr w.heap.size (w.heap.size + 1) [.string ⟨#[]⟩, .int .i64 0, .slice none 0 0, .slice none 0 0]) ∧ Hid (BlkF wr w.heap.size qb [.int .i64 num, .int .i64 den]) ∧ Hid (SlRows ptV 2 wr (some ⟨pb, po, none⟩) (ptL D (dn + 1))) ∧ Hid (Below w.heap.size w wr) ∧ M ≤ wr.heap.size) (fun _ i _ => nb - (intOf i).toNat)
  case atStart => exact ⟨0, none, 0, by omega, rfl, rfl, Lib.hid ⟨by simp [rowsV], Or.inl ⟨rfl, rfl⟩⟩, PB, ZB, QB, HP, HBX, hMX⟩
  case round =>
    clear PB ZB QB HP HBX hMX p0 p1 p2 p3
    obtain ⟨k, C, cm, hk9, rfl, rfl, HO, PB, ZB, QB, HP, HBw, hMw⟩ := hrel
    have hB := HBw.out
    have zb := hB.size
    obtain ⟨p0, p1, p2, p3⟩ := b4 PB.out
    by_cases hkd : k < dn
    · have kn : (k : Int) < (dn : Int) := by omega
      have k0 : ¬ (k : Int) < 0 := by omega
      have kD : k < D.length := by have := hdn.out; omega
      obtain ⟨b9, hb9⟩ : ∃ z, Hid (secT D k = z) := ⟨_, Lib.hid rfl⟩
      obtain ⟨c9, hc9⟩ : ∃ z, Hid (secT D (k + 1) = z) := ⟨_, Lib.hid rfl⟩
      obtain ⟨s8, hs8⟩ : ∃ z, Hid (D[k].s = z) := ⟨_, Lib.hid rfl⟩
      obtain ⟨d8, hd8⟩ : ∃ z, Hid (D[k].d = z) := ⟨_, Lib.hid rfl⟩
      obtain ⟨g9, hg9⟩ : ∃ z, Hid (D[k].g = z) := ⟨_, Lib.hid rfl⟩
      obtain ⟨lb', lf', hlbe, hlk, hRk⟩ := (hD.out.below hB).at' kD
      cases hlbe
      obtain ⟨f0, f1, f2⟩ := le_at hRk kD
      rw [hs8.out] at f0
      rw [hd8.out] at f1
      rw [hg9.out] at f2
      have wk : IntKind.i64.wrap ((k : Int) + 1) = (k : Int) + 1 := IntWalk.i64_in _ (by omega)
      have tk : ((k : Int) + 1).toNat = k + 1 := by omega
      have k1 : (k : Int) + 1 < (dn : Int) + 1 := by omega
      have k2 : (0 : Int) ≤ (k : Int) + 1 := by omega
      have k3 : (k : Int) < (dn : Int) + 1 := by omega
      have k4 : ¬ (k : Int) + 1 < 0 := by omega
      go_upto_region 11 with (fail)
      refine wp_worldE (fun u => BlkF u w.heap.size wr.heap.size [.int .i64 s8, .int .i64 d8, .int .i64 g9] ∧ Below wr.heap.size wr u) ⟨BlkF.made (B := w.heap.size) wr [.int .i64 s8, .int .i64 d8, .int .i64 g9] 64 zb, (Below.refl _ _).alloc (Nat.le_refl _) _⟩ (fun u hu => ?_)
      obtain ⟨lblk, hbu⟩ := hu
      have LB := Lib.hid lblk
      obtain ⟨lg, hlg⟩ : ∃ z, wr.heap.size = z := ⟨_, rfl⟩
      rw [hlg] at LB
      try rw [hlg]
      have hlgM : M ≤ lg := by omega
      have HOX : Hid (∀ q, (Value.slice C k cm).ownBlock = some q → q < lg) := Lib.hid fun q hq => by rw [← hlg]; exact (own_blockG HO.out q hq).2
      have hBu := hB.trans (hbu.mono hB.size)
      have hMu := Nat.le_trans hMw hbu.size
      replace PB := Lib.hid (PB.out.below hbu)
      replace ZB := Lib.hid (ZB.out.below hbu)
      replace QB := Lib.hid (QB.out.below hbu)
      replace HP := Lib.hid (HP.out.below hbu)
      replace HO := Lib.hid (own_belowG HO.out hbu (Nat.le_refl _))
      have e0' := (sl_pt HP.out (k := k) (by rw [ptL_len]; omega) (show _ = b9 by rw [ptL_getD (by omega)]; exact hb9.out) rfl).1
      have e1' := (sl_pt HP.out (k := k + 1) (by rw [ptL_len]; omega) (show _ = c9 by rw [ptL_getD (by omega)]; exact hc9.out) rfl).1
      have lpu : pb < u.heap.size := by omega
      have HS : Hid (∀ y, Below u.heap.size u y → y.cell? ⟨pb, po + k * 2, none⟩ = some (.int .i64 b9) ∧ y.cell? ⟨pb, po + (k + 1) * 2, none⟩ = some (.int .i64 c9)) := Lib.hid fun y hy => ⟨(hy.cell (p := ⟨pb, po + k * 2, none⟩) lpu).trans e0', (hy.cell (p := ⟨pb, po + (k + 1) * 2, none⟩) lpu).trans e1'⟩
      clear lblk hbu hlg p0 p1 p2 p3 f0 f1 f2 hRk e0' e1' hlk hB HBw hMw zb
      refine wp_region_held_drew (S := (fun w' => w'.cell? ⟨pb, po + k * 2, none⟩ = some (.int .i64 b9) ∧ w'.cell? ⟨pb, po + (k + 1) * 2, none⟩ = some (.int .i64 c9))) (by kernel_rfl) (HS.out _ (Below.refl _ _).drew) (fun hHeld => ?_)
      have hT0 : Below u.heap.size u u.drew := (Below.refl _ _).drew
      generalize hdr : u.drew = v0 at *
      clear hdr
      refine tkH 0 ⟨some 39, _, _, _, _, _⟩ ?_ rfl ?_ (by assumption) ?_
      rotate_left
      · (intro w hSw; (try dsimp only at hSw); go_simp; all_goals with_reducible rfl)
      try simp only [Act.put, sA, sB, sC]
      refine tkH 1 ⟨some 40, _, _, _, _, _⟩ ?_ rfl ?_ (by assumption) ?_
      rotate_left
      · (intro w hSw; (try dsimp only at hSw); go_simp; all_goals with_reducible rfl)
      try simp only [Act.put, sA, sB, sC]
      refine tkH 2 ⟨some 41, _, _, _, _, _⟩ ?_ rfl ?_ (by assumption) ?_
      rotate_left
      · (intro w hSw; (try dsimp only at hSw); go_simp; all_goals with_reducible rfl)
      try simp only [Act.put, sA, sB, sC]
      refine tkH 3 ⟨some 42, _, _, _, _, _⟩ ?_ rfl ?_ (by assumption) ?_
      rotate_left
      · (intro w hSw; (try dsimp only at hSw); go_simp; all_goals with_reducible rfl)
      try simp only [Act.put, sA, sB, sC]
      refine tkH 4 ⟨some 43, _, _, _, _, _⟩ ?_ rfl ?_ (by assumption) ?_
      rotate_left
      · (intro w hSw; (try dsimp only at hSw); go_simp; all_goals with_reducible rfl)
      try simp only [Act.put, sA, sB, sC]
      refine tkH 5 ⟨some 44, _, _, _, _, _⟩ ?_ rfl ?_ (by assumption) ?_
      rotate_left
      · (intro w hSw; (try dsimp only at hSw); go_simp; all_goals with_reducible rfl)
      try simp only [Act.put, sA, sB, sC]
      refine tkH 6 ⟨some 45, _, _, _, _, _⟩ ?_ rfl ?_ (by assumption) ?_
      rotate_left
      · (intro w hSw; (try dsimp only at hSw); go_simp; all_goals with_reducible rfl)
      try simp only [Act.put, sA, sB, sC]
      refine tkH 7 ⟨some 46, _, _, _, _, _⟩ ?_ rfl ?_ (by assumption) ?_
      rotate_left
      · (intro w hSw; (try dsimp only at hSw); go_simp; all_goals with_reducible rfl)
      try simp only [Act.put, sA, sB, sC]
      refine tkH 8 ⟨some 47, _, _, _, _, _⟩ ?_ rfl ?_ (by assumption) ?_
      rotate_left
      · (intro w hSw; (try dsimp only at hSw); go_simp; all_goals with_reducible rfl)
      try simp only [Act.put, sA, sB, sC]
      refine tkH 9 ⟨some 48, _, _, _, _, _⟩ ?_ rfl ?_ (by assumption) ?_
      rotate_left
      · (intro w hSw; (try dsimp only at hSw); go_simp; all_goals with_reducible rfl)
      try simp only [Act.put, sA, sB, sC]
      refine tkH 10 ⟨some 49, _, _, _, _, _⟩ ?_ rfl ?_ (by assumption) ?_
      rotate_left
      · (intro w hSw; (try dsimp only at hSw); go_simp; all_goals with_reducible rfl)
      try simp only [Act.put, sA, sB, sC]
      refine tkH 11 ⟨some 12, _, _, _, _, _⟩ ?_ rfl ?_ (by assumption) ?_
      rotate_left
      · (intro w hSw; (try dsimp only at hSw); go_simp; all_goals with_reducible rfl)
      try simp only [Act.put, sA, sB, sC]
      refine tkH 12 ⟨some 13, _, _, _, _, _⟩ ?_ rfl ?_ (by assumption) ?_
      rotate_left
      · (intro w hSw; (try dsimp only at hSw); go_simp; all_goals with_reducible rfl)
      try simp only [Act.put, sA, sB, sC]
      refine wpAnyH_done (by kernel_rfl) ?_ _
      have hT9 := hT0
      obtain ⟨z, rfl⟩ : ∃ z, z = v0 := ⟨_, rfl⟩
      clear hHeld HS
      have hBz := hBu.trans (hT9.mono hBu.size)
      replace PB := Lib.hid (PB.out.below hT9)
      replace ZB := Lib.hid (ZB.out.below hT9)
      replace QB := Lib.hid (QB.out.below hT9)
      replace HP := Lib.hid (HP.out.below hT9)
      replace HO := Lib.hid (own_belowG HO.out hT9 (Nat.le_refl _))
      replace LB := Lib.hid (LB.out.below hT9)
      have hMz := Nat.le_trans hMu hT9.size
      clear hT9 hBu hMu
      by_cases hkb0 : k < nb
      · have hb1 := hbeg.out k hkb0
        rw [hb9.out] at hb1
        have hnge : ¬ t ≤ b9 := by omega
        obtain ⟨XS, hXS⟩ : ∃ z, Hid (DB.take k = z) := ⟨_, Lib.hid rfl⟩
        rw [hXS.out] at HO
        have hXl : Hid (XS.length = k) := Lib.hid (by rw [← hXS.out, List.length_take, ← hnb.out]; omega)
        have hkl : k < DB.length := by rw [← hnb.out]; exact hkb0
        by_cases hgt : t < c9
        · have hq := hcut.out k hkb0 (by rw [hc9.out]; exact hgt)
          rw [hb9.out] at hq
          obtain ⟨s9, hs9⟩ : ∃ z, Hid (t - b9 = z) := ⟨_, Lib.hid rfl⟩
          have ws : IntKind.i64.wrap (t - b9) = s9 := by rw [IntWalk.i64_in _ (by have := hok.out.sec k; rw [hb9.out] at this; omega)]; exact hs9.out
          obtain ⟨d9, hd9⟩ : ∃ z, z = lo := ⟨_, rfl⟩
          have hXn : Hid (DB.take (k + 1) = XS ++ [⟨s9, d9, g9⟩]) := Lib.hid (by
            rw [List.take_add_one, hXS.out, List.getElem?_eq_getElem hkl, Option.toList_some, ← pt_leD hkl, hq, hs9.out, hd9, getD_leE kD, hg9.out])
          obtain ⟨q0, q1⟩ := b2 QB.out
          have lqz := QB.out.lt
          have fl0 := fldR0 lo hi
          go_wp2_with fail
          refine (ratRound_is num den lo hi _ hn0 (by omega) hdb.1 (by omega) hlo hhi).mono ?_
          rintro e y ⟨rfl, hby⟩
          replace PB := Lib.hid (PB.out.below hby)
          replace ZB := Lib.hid (ZB.out.below hby)
          replace QB := Lib.hid (QB.out.below hby)
          replace HP := Lib.hid (HP.out.below hby)
          replace HO := Lib.hid (own_belowG HO.out hby (Nat.le_refl _))
          replace LB := Lib.hid (LB.out.below hby)
          have hBY := hBz.trans (hby.mono hBz.size)
          have hMY := Nat.le_trans hMz hby.size
          obtain ⟨l0, l1, l2⟩ := b3 LB.out
          have lff := LB.out.fz
          clear hby hBz hMz q0 q1 lqz
          go_upto_region 15 with (fail)
          refine wp_worldE (fun x => BlkF x w.heap.size lg [.int .i64 s9, .int .i64 d9, .int .i64 g9] ∧ BlkF x w.heap.size w.heap.size [.string nm, .int .i64 s, .slice (some ⟨gb, gf, none⟩) gn gc, .slice (some ⟨lb, lf, none⟩) dn dc] ∧ BlkF x w.heap.size (w.heap.size + 1) [.string ⟨#[]⟩, .int .i64 0, .slice none 0 0, .slice none 0 0] ∧ BlkF x w.heap.size qb [.int .i64 num, .int .i64 den] ∧ SlRows ptV 2 x (some ⟨pb, po, none⟩) (ptL D (dn + 1)) ∧ x.ownsRow M 64 3 (.slice C k cm) k (rowsV leV XS) ∧ Below w.heap.size w x ∧ M ≤ x.heap.size) ⟨?_, PB.out.other (c := lg) (i := 0) (l := [.int .i64 s9, .int .i64 lo]) (by omega), ZB.out.other (c := lg) (i := 0) (l := [.int .i64 s9, .int .i64 lo]) (by omega), QB.out.other (c := lg) (i := 0) (l := [.int .i64 s9, .int .i64 lo]) (by omega), sl_otherB (c := lg) (i := 0) (l := [.int .i64 s9, .int .i64 lo]) HP.out (fun ad h => by cases h; show pb ≠ lg; omega), ?_, stW_below (b := lg) (by omega) [.int .i64 s9, .int .i64 lo] _ 0 hBY, by simpa using hMY⟩ (fun x hx => ?_)
          · rw [hd9]
            exact (LB.out.put (i := 0) (.int .i64 s9) (by simp)).put (i := 1) (.int .i64 lo) (by simp)
          · exact own_stW (b := lg) HO.out (fun hh => by have := HOX.out lg hh; omega) [.int .i64 s9, .int .i64 lo] 0
          obtain ⟨x1', x2', x3', x4', x5', x6', x7', x8'⟩ := hx
          clear PB ZB QB HP HO LB l0 l1 l2 lff hBY hMY
          have PB := Lib.hid x2'
          have ZB := Lib.hid x3'
          have QB := Lib.hid x4'
          have HP := Lib.hid x5'
          have HO := Lib.hid x6'
          have LB := Lib.hid x1'
          have hBz := x7'
          have hMz := x8'
          clear x1' x2' x3' x4' x5' x6' x7' x8' hq hd9
          obtain ⟨l0, l1, l2⟩ := b3 LB.out
          have lL := LB.out.lt
          go_wp2_with (at_builtin; refine wpList_append_slG rfl _ _ 23 rfl M 64 i0 (.agg #[.int .i64 0, .int .i64 0, .int .i64 0]) 3 24 Try.underlying23 HI.out HZ0.out HZ1.out HZ2.out rfl (by decide) (.slice C k cm) k (rowsV leV XS) rfl (own_belowG HO.out ((Below.refl _ _).alloc (Nat.le_refl _) _) (Nat.le_refl _)) (some ⟨x.heap.size, 0, none⟩) 1 1 [.int .i64 s9, .int .i64 d9, .int .i64 g9] rfl (fun h => by cases h) rfl (fun ad had j v hj => by cases had; rw [addNR, Nat.zero_add]; exact (BlkF.made (B := 0) x [.int .i64 s9, .int .i64 d9, .int .i64 g9] 64 (Nat.zero_le _)).at' j v hj) (by intro v hv; simp at hv; rcases hv with rfl | rfl | rfl <;> rfl) (by unfold maxLen; omega) (by omega) (by simp; omega) ?_)
          intro rv X0 hown hgrow hblk
          have hNX : Below M x X0 := ((Below.refl M x).alloc (by omega) _).grown hgrow (by simp; omega) (fun r hr => (own_blockG HO.out r hr).1)
          obtain ⟨A5, c5, hrv, y9, y8, y7, y6, y5⟩ := SlRows_own (f := leV) (n := 3) (L := XS ++ [⟨s9, d9, g9⟩]) (fun _ => rfl) (by rw [rowsV_appG, List.length_append, hXl.out]; exact hown)
          clear y9 y8 y7 y6 y5
          rw [show (XS ++ [(⟨s9, d9, g9⟩ : Le)]).length = k + 1 by simp [hXl.out]] at hrv
          subst hrv
          have HO2 : Hid (X0.ownsRow M 64 3 (.slice A5 (k + 1) c5) (k + 1) (rowsV leV (DB.take (k + 1)))) := Lib.hid (by rw [hXn.out, rowsV_appG]; exact hown)
          have P2 := Lib.hid (PB.out.low hNX lPM)
          have Z2 := Lib.hid (ZB.out.low hNX lZM)
          have Q2 := Lib.hid (QB.out.low hNX lQM)
          have H2 := Lib.hid (sl_lowB HP.out hNX lpM)
          have hB2 := Lib.hid (hBz.trans (hNX.mono (by omega)))
          have hz3 := Nat.le_trans hMz hNX.size
          clear hown hgrow hblk hNX HO PB ZB QB HP hXS hXl hXn hBz hMz LB l0 l1 l2 lL
          go_wp2
          go_roundw
          case rel => exact ⟨k + 1, A5, c5, by omega, by go_num, rfl, HO2, P2, Z2, Q2, H2, hB2, hz3⟩
          case measure => simp [intOf]; omega
        · have hng : ¬ t < c9 := hgt
          have hq := hfull.out k hkb0 (by rw [hc9.out]; omega)
          obtain ⟨s9, hs9⟩ : ∃ z, z = s8 := ⟨_, rfl⟩
          obtain ⟨d9, hd9⟩ : ∃ z, z = d8 := ⟨_, rfl⟩
          rw [← hs9, ← hd9] at LB
          have hXn : Hid (DB.take (k + 1) = XS ++ [⟨s9, d9, g9⟩]) := Lib.hid (by
            rw [List.take_add_one, hXS.out, List.getElem?_eq_getElem hkl, Option.toList_some, ← pt_leD hkl, hq, getD_leE kD, hs9, hd9, ← hs8.out, ← hd8.out, ← hg9.out])
          have l0' := b3 LB.out
          clear hq hgt hs9 hd9 l0'
          obtain ⟨l0, l1, l2⟩ := b3 LB.out
          have lL := LB.out.lt
          go_wp2_with (at_builtin; refine wpList_append_slG rfl _ _ 23 rfl M 64 i0 (.agg #[.int .i64 0, .int .i64 0, .int .i64 0]) 3 24 Try.underlying23 HI.out HZ0.out HZ1.out HZ2.out rfl (by decide) (.slice C k cm) k (rowsV leV XS) rfl (own_belowG HO.out ((Below.refl _ _).alloc (Nat.le_refl _) _) (Nat.le_refl _)) (some ⟨z.heap.size, 0, none⟩) 1 1 [.int .i64 s9, .int .i64 d9, .int .i64 g9] rfl (fun h => by cases h) rfl (fun ad had j v hj => by cases had; rw [addNR, Nat.zero_add]; exact (BlkF.made (B := 0) z [.int .i64 s9, .int .i64 d9, .int .i64 g9] 64 (Nat.zero_le _)).at' j v hj) (by intro v hv; simp at hv; rcases hv with rfl | rfl | rfl <;> rfl) (by unfold maxLen; omega) (by omega) (by simp; omega) ?_)
          intro rv X0 hown hgrow hblk
          have hNX : Below M z X0 := ((Below.refl M z).alloc (by omega) _).grown hgrow (by simp; omega) (fun r hr => (own_blockG HO.out r hr).1)
          obtain ⟨A5, c5, hrv, y9, y8, y7, y6, y5⟩ := SlRows_own (f := leV) (n := 3) (L := XS ++ [⟨s9, d9, g9⟩]) (fun _ => rfl) (by rw [rowsV_appG, List.length_append, hXl.out]; exact hown)
          clear y9 y8 y7 y6 y5
          rw [show (XS ++ [(⟨s9, d9, g9⟩ : Le)]).length = k + 1 by simp [hXl.out]] at hrv
          subst hrv
          have HO2 : Hid (X0.ownsRow M 64 3 (.slice A5 (k + 1) c5) (k + 1) (rowsV leV (DB.take (k + 1)))) := Lib.hid (by rw [hXn.out, rowsV_appG]; exact hown)
          have P2 := Lib.hid (PB.out.low hNX lPM)
          have Z2 := Lib.hid (ZB.out.low hNX lZM)
          have Q2 := Lib.hid (QB.out.low hNX lQM)
          have H2 := Lib.hid (sl_lowB HP.out hNX lpM)
          have hB2 := Lib.hid (hBz.trans (hNX.mono (by omega)))
          have hz3 := Nat.le_trans hMz hNX.size
          clear hown hgrow hblk hNX HO PB ZB QB HP hXS hXl hXn hBz hMz LB l0 l1 l2 lL
          go_wp2
          go_roundw
          case rel => exact ⟨k + 1, A5, c5, by omega, by go_num, rfl, HO2, P2, Z2, Q2, H2, hB2, hz3⟩
          case measure => simp [intOf]; omega
      · have hkb : k = nb := by omega
        have hge : t ≤ b9 := by have := hend.out (by omega); rw [← hkb, hb9.out] at this; exact this
        clear hkb0
        have HDB : Hid (DB.take k = DB) := Lib.hid (List.take_of_length_le (by rw [← hnb.out]; omega))
        rw [HDB.out] at HO
        obtain ⟨A6, c6, hv6, hS6, hg6, hn6, _, _⟩ := SlRows_own (f := leV) (n := 3) (L := DB) (fun _ => rfl) (by rw [← hnb.out, ← hkb]; exact HO.out)
        rw [← hnb.out, ← hkb] at hv6
        injection hv6 with v1 v2 v3
        subst v1
        subst v3
        have HS6 := Lib.hid hS6
        have HN6 : Hid (C = none → k = 0 ∧ cm = 0) := Lib.hid fun h => ⟨by rcases HO.out.2 with ⟨_, h0⟩ | ⟨g, _, _, hv, _⟩; (exact h0); (rw [h] at hv; cases hv), hn6 h⟩
        clear hS6 hg6 hn6 v2 HO
        obtain ⟨p0, p1, p2, p3⟩ := b4 PB.out
        have HKB := Lib.hid hkb
        clear hkb
        go_wp2_with fail
        refine calls_world (fun X => BlkF X w.heap.size (w.heap.size + 1) [.string ⟨#[]⟩, .int .i64 0, .slice none 0 0, .slice none 0 0] ∧ X.cell? ⟨z.heap.size, 0, none⟩ = some (.slice C k cm) ∧ z.heap.size < X.heap.size ∧ SlRows leV 3 X C DB ∧ Below w.heap.size w X) ⟨ZB.out.below ((Below.refl _ _).alloc (Nat.le_refl _) _), by simp [go_sem], by simp, HS6.out.below ((Below.refl _ _).alloc (Nat.le_refl _) _), hBz.alloc hBz.size _⟩ (fun y hy => ?_)
        obtain ⟨ZB9, dc0, dl, hsl9, hBy⟩ := hy
        refine (withLegs_is nm s G gb gf gn gc (some ⟨lb, lf, none⟩) dn dc DB C k cm z.heap.size y hgn (by omega) (Lib.hid (hG.out.below hBy)) (Lib.hid hsl9) (Lib.hid (by have := hnb.out; have := HKB.out; omega)) (by omega) HN6 (Lib.hid dc0) dl).mono ?_
        rintro e y2 ⟨G9, cg, L9, cl, rfl, hsg, hsl, hg9, hl9, hb9⟩
        have HG9 := Lib.hid hg9
        have HL9 := Lib.hid hl9
        have HYW : Hid (w.heap.size + 2 ≤ y.heap.size) := Lib.hid (by omega)
        clear hg9 hl9
        have hB9 := hBy.trans (hb9.mono hBy.size)
        have ZB8 := ZB9.below hb9
        have HSG := Lib.hid hsg
        have HSL := Lib.hid hsl
        clear hsg hsl hb9 hBy ZB9 dc0 hsl9
        obtain ⟨r0, r1, r2, r3⟩ := b4 ZB8
        have rf := ZB8.fz
        go_wp2
        refine bodyPost_ret (v := .tuple #[.agg #[.string nm, .int .i64 s, .slice G9 gn cg, .slice L9 k cl], .int .i64 0]) (by simp [results, Try.results18, go_sem, *]) rfl ⟨G9, cg, L9, cl, by rw [HKB.out], ?_, ?_, ?_⟩
        · exact sl_otherB (c := w.heap.size + 1) (i := 0) (l := [.string nm, .int .i64 s, .slice G9 gn cg, .slice L9 k cl]) HSG.out (fun ad h => by have := HG9.out ad h; have := HYW.out; omega)
        · exact sl_otherB (c := w.heap.size + 1) (i := 0) (l := [.string nm, .int .i64 s, .slice G9 gn cg, .slice L9 k cl]) HSL.out (fun ad h => by have := HL9.out ad h; have := HYW.out; omega)
        · exact stW_below (by omega) [.string nm, .int .i64 s, .slice G9 gn cg, .slice L9 k cl] _ 0 hB9
    · have kn : ¬ (k : Int) < (dn : Int) := by omega
      have hkb : k = nb := by omega
      have HDB : Hid (DB.take k = DB) := Lib.hid (List.take_of_length_le (by rw [← hnb.out]; omega))
      rw [HDB.out] at HO
      obtain ⟨A6, c6, hv6, hS6, hg6, hn6, _, _⟩ := SlRows_own (f := leV) (n := 3) (L := DB) (fun _ => rfl) (by rw [← hnb.out, ← hkb]; exact HO.out)
      rw [← hnb.out, ← hkb] at hv6
      injection hv6 with v1 v2 v3
      subst v1
      subst v3
      have HS6 := Lib.hid hS6
      have HN6 : Hid (C = none → k = 0 ∧ cm = 0) := Lib.hid fun h => ⟨by rcases HO.out.2 with ⟨_, h0⟩ | ⟨g, _, _, hv, _⟩; (exact h0); (rw [h] at hv; cases hv), hn6 h⟩
      clear hS6 hg6 hn6 v2 HO
      obtain ⟨p0, p1, p2, p3⟩ := b4 PB.out
      have HKB := Lib.hid hkb
      clear hkb
      go_wp2_with fail
      refine calls_world (fun X => BlkF X w.heap.size (w.heap.size + 1) [.string ⟨#[]⟩, .int .i64 0, .slice none 0 0, .slice none 0 0] ∧ X.cell? ⟨wr.heap.size, 0, none⟩ = some (.slice C k cm) ∧ wr.heap.size < X.heap.size ∧ SlRows leV 3 X C DB ∧ Below w.heap.size w X) ⟨ZB.out.below ((Below.refl _ _).alloc (Nat.le_refl _) _), by simp [go_sem], by simp, HS6.out.below ((Below.refl _ _).alloc (Nat.le_refl _) _), hB.alloc hB.size _⟩ (fun y hy => ?_)
      obtain ⟨ZB9, dc0, dl, hsl9, hBy⟩ := hy
      refine (withLegs_is nm s G gb gf gn gc (some ⟨lb, lf, none⟩) dn dc DB C k cm wr.heap.size y hgn (by omega) (Lib.hid (hG.out.below hBy)) (Lib.hid hsl9) (Lib.hid (by have := hnb.out; have := HKB.out; omega)) (by omega) HN6 (Lib.hid dc0) dl).mono ?_
      rintro e y2 ⟨G9, cg, L9, cl, rfl, hsg, hsl, hg9, hl9, hb9⟩
      have HG9 := Lib.hid hg9
      have HL9 := Lib.hid hl9
      have HYW : Hid (w.heap.size + 2 ≤ y.heap.size) := Lib.hid (by omega)
      clear hg9 hl9
      have hB9 := hBy.trans (hb9.mono hBy.size)
      have ZB8 := ZB9.below hb9
      have HSG := Lib.hid hsg
      have HSL := Lib.hid hsl
      clear hsg hsl hb9 hBy ZB9 dc0 hsl9
      obtain ⟨r0, r1, r2, r3⟩ := b4 ZB8
      have rf := ZB8.fz
      go_wp2
      refine bodyPost_ret (v := .tuple #[.agg #[.string nm, .int .i64 s, .slice G9 gn cg, .slice L9 k cl], .int .i64 0]) (by simp [results, Try.results18, go_sem, *]) rfl ⟨G9, cg, L9, cl, by rw [HKB.out], ?_, ?_, ?_⟩
      · exact sl_otherB (c := w.heap.size + 1) (i := 0) (l := [.string nm, .int .i64 s, .slice G9 gn cg, .slice L9 k cl]) HSG.out (fun ad h => by have := HG9.out ad h; have := HYW.out; omega)
      · exact sl_otherB (c := w.heap.size + 1) (i := 0) (l := [.string nm, .int .i64 s, .slice G9 gn cg, .slice L9 k cl]) HSL.out (fun ad h => by have := HL9.out ad h; have := HYW.out; omega)
      · exact stW_below (by omega) [.string nm, .int .i64 s, .slice G9 gn cg, .slice L9 k cl] _ 0 hB9
  
end Go.Proofs.Ytgidmmmdpmophaa
