import Derived.Test.YtijdphlejokijaaEBBEWgt
import Derived.Test.YtijdphlejokijaaEBBEDpts
import Derived.Test.YtijdphlejokijaaEBBERfC
import Derived.Outline
namespace Go.Proofs.Ytijdphlejokijaa
open Go.ChangeShapes Go.WideShapes Go.ChangeAt Go.RowKit
set_option linter.unusedVariables false
set_option linter.unusedSimpArgs false
attribute [local go_sem ↓] Go.wp_at_zero Go.wp_at_succ

theorem BlkF.belowN {u u' : World} {B b N : Nat} {vs : List Value} (h : BlkF u B b vs) (hb : Below N u u') (hlt : b < N) : BlkF u' B b vs :=
  ⟨h.ge, Nat.lt_of_lt_of_le h.lt hb.size, fun i v hv => (hb.cell (p := ⟨b, i, none⟩) hlt).trans (h.at' i v hv), fun j => (hb.frozen (p := ⟨b, j, none⟩) hlt).trans (h.fz j)⟩
/-- A row of the call's own. -/
def OwR (N : Nat) (v : Value) (n : Nat) (xs : List Value) (w : World) : Prop := w.ownsRow N 3 1 v n xs
theorem OwR.below {N : Nat} {v : Value} {n : Nat} {xs : List Value} {w w' : World} (h : OwR N v n xs w) (hb : Below w.heap.size w w') : OwR N v n xs w' := own_belowG h hb (Nat.le_refl _)
/-- The kinds that are broken between two pressures. -/
def brkL (r : Ru) (o h s lo hi : Int) : List Int := (if o * lo < 1000 * r.a then [1] else []) ++ kndL r o h s (hi - s)
theorem gasE_o5 {o h : Int} (hg : gasE o h = 0) : 0 ≤ o ∧ o ≤ 1000 ∧ 0 ≤ h ∧ h ≤ 1000 ∧ o + h ≤ 1000 := by
  have := eqE_z (o := o) (h := h) (s := 1000) (d := 0) (by unfold eqE; rw [hg]; decide)
  exact this.1
theorem fldR (x y : Int) (w : World) : (Instr.field 47 (.agg #[.int .i64 x, .int .i64 y]) 1).run Try.prog w = .ok (.int .i64 y) w := by kernel_rfl
theorem narB (o h s d x y : Int) (w : World) (k1 : 0 ≤ o) (k2 : o ≤ 1000) (k3 : 0 ≤ h) (k4 : h ≤ 1000) (k7 : o + h ≤ 1000) (k5 : 400 ≤ s) (k6 : s ≤ 1100) (k8 : 0 ≤ d) (k9 : d ≤ 30000) (hx : Hid (above ((1000 - h) * (s + d) / 1000) s = x)) (hy : Hid (narV h s d = y)) :
    Calls Try.prog 110 #[.agg #[.int .i64 o, .int .i64 h], .int .i64 s, .int .i64 d] w fun e w' => e = .returned (.agg #[.int .i64 x, .int .i64 y]) ∧ Below w.heap.size w w' := by
  have hX := mul_bd (show 0 ≤ 1000 - h by omega) (show 1000 - h ≤ 1000 by omega) (show 0 ≤ s + d by omega) (show s + d ≤ 31100 by omega)
  refine (refEquivalentNarcotic_any o h s d _ w k1 k2 k3 k4 k7 k5 k6 k8 k9 (Lib.hid rfl) hX.1 (by omega)).mono fun e w' h => ⟨?_, by rw [← h.2]; exact ((Below.refl _ _).alloc (Nat.le_refl _) _).alloc (by simp) _⟩
  rw [h.1, ← hx.out, ← hy.out]; rfl
theorem denB (o h s p x y : Int) (w : World) (k1 : 0 ≤ o) (k2 : o ≤ 1000) (k3 : 0 ≤ h) (k4 : h ≤ 1000) (k7 : o + h ≤ 1000) (k5 : 0 ≤ p) (k6 : p ≤ 1000000000) (hx : Hid (wgt o h * p / 1013000 = x)) (hy : Hid ((wgt o h * p + 1013000 - 1) / 1013000 = y)) :
    Calls Try.prog 111 #[.agg #[.int .i64 o, .int .i64 h], .int .i64 p] w fun e w' => e = .returned (.agg #[.int .i64 x, .int .i64 y]) ∧ Below w.heap.size w w' := refDensity_ok o h p x y w k1 k2 k3 k4 k7 k5 k6 hx hy
set_option maxRecDepth 100000 in
set_option maxHeartbeats 16000000 in
theorem breaksAt_is (o h s a b lo hi : Int) (r : Ru) (AT : Option Addr) (tn tc : Nat) (L : List Int) (w : World) (hg : Hid (gasE o h = 0)) (s0 : 400 ≤ s) (s1 : s ≤ 1100) (hlo : s ≤ lo) (hhi : hi ≤ s + 30000) (hll : lo ≤ hi) (e1 : (if b < a then b else a) = lo) (e2 : (if a < b then b else a) = hi) (a0 : 1 ≤ r.a) (a1 : r.a ≤ 4000) (b0 : 1 ≤ r.b) (b1' : r.b ≤ 4000) (hL : Hid (brkL r o h s lo hi = L)) :
    Calls Try.prog 84 #[.agg #[.int .i64 o, .int .i64 h], .int .i64 s, .int .i64 a, .int .i64 b, .agg #[.slice AT tn tc, .int .i64 r.a, .int .i64 r.b, .int .i64 r.nc, .int .i64 r.dn, .int .i64 r.br, .int .i64 r.em, .int .i64 r.pa, .int .i64 r.sc]] w fun e w' => ∃ (C : Option Addr) (c : Nat), e = .returned (.slice C L.length c) ∧ SlRows inV 1 w' C L ∧ (∀ ad, C = some ad → w.heap.size ≤ ad.block) ∧ Below w.heap.size w w' := by
  obtain ⟨i0, hi0, hz0', hz1', hz2'⟩ := info_partsG infoIn
  have HI := Lib.hid hi0
  have HZ0 := Lib.hid hz0'
  have HZ1 := Lib.hid hz1'
  have HZ2 := Lib.hid hz2'
  obtain ⟨k1, k2, k3, k4, k7⟩ := gasE_o5 hg.out
  obtain ⟨dd, hdd⟩ : ∃ z, hi - s = z := ⟨_, rfl⟩
  have hsd : Hid (hi - s = dd) := Lib.hid hdd
  have d0 : 0 ≤ dd := by omega
  have d1 : dd ≤ 30000 := by omega
  have h0 : 0 ≤ hi := by omega
  have h9 : hi ≤ 1000000000 := by omega
  obtain ⟨nx, hnx⟩ : ∃ z, Hid (above ((1000 - h) * (s + dd) / 1000) s = z) := ⟨_, Lib.hid rfl⟩
  obtain ⟨nv, hnv⟩ : ∃ z, Hid (narV h s dd = z) := ⟨_, Lib.hid rfl⟩
  obtain ⟨dx, hdx⟩ : ∃ z, Hid (wgt o h * hi / 1013000 = z) := ⟨_, Lib.hid rfl⟩
  obtain ⟨dv, hdv⟩ : ∃ z, Hid ((wgt o h * hi + 1013000 - 1) / 1013000 = z) := ⟨_, Lib.hid rfl⟩
  have hdv2 : Hid (denV o h s dd = dv) := Lib.hid (by unfold denV; rw [show s + dd = hi by omega]; exact hdv.out)
  have q1 := mul_bd k1 k2 (show 0 ≤ lo by omega) (show lo ≤ 31100 by omega)
  have q2 := mul_bd k1 k2 h0 (show hi ≤ 31100 by omega)
  have e3 : min a b = lo := by rw [← e1]; split <;> omega
  have e4 : max a b = hi := by rw [← e2]; split <;> omega
  have hsd : s + dd = hi := by omega
  have hLL : Hid (brkL r o h s lo hi = (if o * lo < 1000 * r.a then [1] else []) ++ ((if 1000 * r.b < o * hi then [2] else []) ++ (if r.nc < nv then [3] else []) ++ (if r.dn < dv then [4] else []))) := Lib.hid (by unfold brkL kndL; rw [hdd, hsd, hnv.out, hdv2.out])
  have w1 : IntKind.i64.wrap (o * lo) = o * lo := IntWalk.i64_in _ (by omega)
  have w2 : IntKind.i64.wrap (o * hi) = o * hi := IntWalk.i64_in _ (by omega)
  have w3 : IntKind.i64.wrap (1000 * r.a) = 1000 * r.a := IntWalk.i64_in _ (by omega)
  have w4 : IntKind.i64.wrap (1000 * r.b) = 1000 * r.b := IntWalk.i64_in _ (by omega)
  have w5 : IntKind.i64.wrap (hi - s) = dd := by rw [hdd]; exact IntWalk.i64_in _ (by omega)
  have fl1 := fldR
  have HDD := Lib.hid hdd
  have HSD := Lib.hid hsd
  clear hi0 hz0' hz1' hz2' hdd hsd q1 q2 hdv2
  go_enter Try.func84, Try.ntmps84
  go_upto_region 1 with (fail)
  refine wp_worldE (fun u => Below w.heap.size w u ∧ BlkF u w.heap.size (w.heap.size) [.int .i64 o, .int .i64 h] ∧ BlkF u w.heap.size (w.heap.size + 1) [.slice AT tn tc, .int .i64 r.a, .int .i64 r.b, .int .i64 r.nc, .int .i64 r.dn, .int .i64 r.br, .int .i64 r.em, .int .i64 r.pa, .int .i64 r.sc]) ⟨((Below.refl _ _).alloc (by first | exact Nat.le_refl _ | (simp; done) | (simp; omega)) _).alloc (by first | exact Nat.le_refl _ | (simp; done) | (simp; omega)) _, (BlkF.made (B := w.heap.size) w [.int .i64 o, .int .i64 h] 72 (by first | exact Nat.le_refl _ | (simp; done) | (simp; omega))).below (Below.alloc (Below.refl _ (w.alloc (.cells #[.int .i64 o, .int .i64 h] 72))) (Nat.le_refl _) (.cells #[.slice AT tn tc, .int .i64 r.a, .int .i64 r.b, .int .i64 r.nc, .int .i64 r.dn, .int .i64 r.br, .int .i64 r.em, .int .i64 r.pa, .int .i64 r.sc] 26)), by have := BlkF.made (B := w.heap.size) (w.alloc (.cells #[.int .i64 o, .int .i64 h] 72)) [.slice AT tn tc, .int .i64 r.a, .int .i64 r.b, .int .i64 r.nc, .int .i64 r.dn, .int .i64 r.br, .int .i64 r.em, .int .i64 r.pa, .int .i64 r.sc] 26 (by first | exact Nat.le_refl _ | (simp; done) | (simp; omega)); simpa using this⟩ (fun x1 hu1 => ?_)
  obtain ⟨hc1, qGB, qRB⟩ := hu1
  have GB := Lib.hid qGB
  clear qGB
  have RB := Lib.hid qRB
  clear qRB
  have hB1 : Below w.heap.size w x1 := hc1
  have zu1 := hB1.size
  obtain ⟨GB_1_0, GB_1_1⟩ := b2 GB.out
  have lGB_1 := GB.out.lt
  have nGB_1 : x1.heap.size ≠ w.heap.size := by omega
  have mGB_1 : w.heap.size ≠ x1.heap.size := by omega
  obtain ⟨RB_1_0, RB_1_1, RB_1_2, RB_1_3, RB_1_4, RB_1_5, RB_1_6, RB_1_7, RB_1_8⟩ := b9 RB.out
  have lRB_1 := RB.out.lt
  have nRB_1 : x1.heap.size ≠ w.heap.size + 1 := by omega
  have mRB_1 : w.heap.size + 1 ≠ x1.heap.size := by omega
  have zz1 := RB.out.lt
  have HOW : Hid (OwR (w.heap.size + 2) (.slice none 0 0) 0 [] x1) := Lib.hid ⟨rfl, .inl ⟨rfl, rfl⟩⟩
  by_cases g0 : o * lo < 1000 * r.a
  · have G0 := Lib.hid g0
    go_wp2_with (at_builtin; refine wpList_append_slG rfl _ _ 42 rfl (w.heap.size + 2) 3 i0 (.int .i64 0) 1 8 Try.underlying42 HI.out HZ0.out HZ1.out HZ2.out rfl (by decide) (.slice none 0 0) 0 [] rfl (own_belowG HOW.out ((Below.refl _ _).alloc (Nat.le_refl _) _) (Nat.le_refl _)) (some ⟨x1.heap.size, 0, none⟩) 1 1 [.int .i64 1] rfl (fun h => by cases h) rfl (fun ad had j v hj => by cases had; rw [addNR, Nat.zero_add]; exact (BlkF.made (B := 0) x1 [.int .i64 1] 3 (Nat.zero_le _)).at' j v hj) (by intro v hv; simp at hv; subst hv; rfl) (by unfold maxLen; omega) (by omega) (by simp; omega) ?_)
    intro v2 x2 hown2 hgrow2 hblk2
    have hN2 : Below (w.heap.size + 2) x1 x2 := ((Below.refl (w.heap.size + 2) x1).alloc (by omega) _).grown hgrow2 (by simp; omega) (fun r hr => (own_blockG HOW.out r hr).1)
    obtain ⟨A2, c2, hv2, hS2, _, _, _, _⟩ := SlRows_own (f := inV) (n := 1) (L := [1]) (fun _ => rfl) hown2
    replace hv2 : v2 = .slice A2 1 c2 := hv2
    subst hv2
    replace HOW : Hid (OwR (w.heap.size + 2) (.slice A2 1 c2) 1 (rowsV inV [1]) x2) := Lib.hid hown2
    replace GB := Lib.hid (GB.out.belowN hN2 (by omega))
    replace RB := Lib.hid (RB.out.belowN hN2 (by omega))
    have hB2 : Below w.heap.size w x2 := hB1.trans (hN2.mono (by omega))
    have zu2 := hB2.size
    have zz2 := RB.out.lt
    clear hown2 hgrow2 hblk2 hN2 hS2 hB1 zu1 GB_1_0 GB_1_1 lGB_1 nGB_1 mGB_1 RB_1_0 RB_1_1 RB_1_2 RB_1_3 RB_1_4 RB_1_5 RB_1_6 RB_1_7 RB_1_8 lRB_1 nRB_1 mRB_1 zz1
    obtain ⟨GB_2_0, GB_2_1⟩ := b2 GB.out
    have lGB_2 := GB.out.lt
    have nGB_2 : x2.heap.size ≠ w.heap.size := by omega
    have mGB_2 : w.heap.size ≠ x2.heap.size := by omega
    obtain ⟨RB_2_0, RB_2_1, RB_2_2, RB_2_3, RB_2_4, RB_2_5, RB_2_6, RB_2_7, RB_2_8⟩ := b9 RB.out
    have lRB_2 := RB.out.lt
    have nRB_2 : x2.heap.size ≠ w.heap.size + 1 := by omega
    have mRB_2 : w.heap.size + 1 ≠ x2.heap.size := by omega
    by_cases g1 : 1000 * r.b < o * hi
    · have G1 := Lib.hid g1
      go_wp2_with (at_builtin; refine wpList_append_slG rfl _ _ 42 rfl (w.heap.size + 2) 3 i0 (.int .i64 0) 1 8 Try.underlying42 HI.out HZ0.out HZ1.out HZ2.out rfl (by decide) (.slice A2 1 c2) 1 (rowsV inV [1]) rfl (own_belowG HOW.out ((Below.refl _ _).alloc (Nat.le_refl _) _) (Nat.le_refl _)) (some ⟨x2.heap.size, 0, none⟩) 1 1 [.int .i64 2] rfl (fun h => by cases h) rfl (fun ad had j v hj => by cases had; rw [addNR, Nat.zero_add]; exact (BlkF.made (B := 0) x2 [.int .i64 2] 3 (Nat.zero_le _)).at' j v hj) (by intro v hv; simp at hv; subst hv; rfl) (by unfold maxLen; omega) (by omega) (by simp; omega) ?_)
      intro v3 x3 hown3 hgrow3 hblk3
      have hN3 : Below (w.heap.size + 2) x2 x3 := ((Below.refl (w.heap.size + 2) x2).alloc (by omega) _).grown hgrow3 (by simp; omega) (fun r hr => (own_blockG HOW.out r hr).1)
      obtain ⟨A3, c3, hv3, hS3, _, _, _, _⟩ := SlRows_own (f := inV) (n := 1) (L := [1, 2]) (fun _ => rfl) hown3
      replace hv3 : v3 = .slice A3 2 c3 := hv3
      subst hv3
      replace HOW : Hid (OwR (w.heap.size + 2) (.slice A3 2 c3) 2 (rowsV inV [1, 2]) x3) := Lib.hid hown3
      replace GB := Lib.hid (GB.out.belowN hN3 (by omega))
      replace RB := Lib.hid (RB.out.belowN hN3 (by omega))
      have hB3 : Below w.heap.size w x3 := hB2.trans (hN3.mono (by omega))
      have zu3 := hB3.size
      have zz3 := RB.out.lt
      clear hown3 hgrow3 hblk3 hN3 hS3 hB2 zu2 GB_2_0 GB_2_1 lGB_2 nGB_2 mGB_2 RB_2_0 RB_2_1 RB_2_2 RB_2_3 RB_2_4 RB_2_5 RB_2_6 RB_2_7 RB_2_8 lRB_2 nRB_2 mRB_2 zz2
      obtain ⟨GB_3_0, GB_3_1⟩ := b2 GB.out
      have lGB_3 := GB.out.lt
      have nGB_3 : x3.heap.size ≠ w.heap.size := by omega
      have mGB_3 : w.heap.size ≠ x3.heap.size := by omega
      obtain ⟨RB_3_0, RB_3_1, RB_3_2, RB_3_3, RB_3_4, RB_3_5, RB_3_6, RB_3_7, RB_3_8⟩ := b9 RB.out
      have lRB_3 := RB.out.lt
      have nRB_3 : x3.heap.size ≠ w.heap.size + 1 := by omega
      have mRB_3 : w.heap.size + 1 ≠ x3.heap.size := by omega
      go_upto_region 6 with (fail)
      have HS : Hid (∀ y, Below x3.heap.size x3 y → y.cell? ⟨w.heap.size, 0, none⟩ = some (.int .i64 o) ∧ y.cell? ⟨w.heap.size, 1, none⟩ = some (.int .i64 h) ∧ y.cell? ⟨w.heap.size + 1, 0, none⟩ = some (.slice AT tn tc) ∧ y.cell? ⟨w.heap.size + 1, 1, none⟩ = some (.int .i64 r.a) ∧ y.cell? ⟨w.heap.size + 1, 2, none⟩ = some (.int .i64 r.b) ∧ y.cell? ⟨w.heap.size + 1, 3, none⟩ = some (.int .i64 r.nc) ∧ y.cell? ⟨w.heap.size + 1, 4, none⟩ = some (.int .i64 r.dn) ∧ y.cell? ⟨w.heap.size + 1, 5, none⟩ = some (.int .i64 r.br) ∧ y.cell? ⟨w.heap.size + 1, 6, none⟩ = some (.int .i64 r.em) ∧ y.cell? ⟨w.heap.size + 1, 7, none⟩ = some (.int .i64 r.pa) ∧ y.cell? ⟨w.heap.size + 1, 8, none⟩ = some (.int .i64 r.sc)) := Lib.hid fun y hy => ⟨(hy.cell (p := ⟨w.heap.size, 0, none⟩) lGB_3).trans GB_3_0, (hy.cell (p := ⟨w.heap.size, 1, none⟩) lGB_3).trans GB_3_1, (hy.cell (p := ⟨w.heap.size + 1, 0, none⟩) lRB_3).trans RB_3_0, (hy.cell (p := ⟨w.heap.size + 1, 1, none⟩) lRB_3).trans RB_3_1, (hy.cell (p := ⟨w.heap.size + 1, 2, none⟩) lRB_3).trans RB_3_2, (hy.cell (p := ⟨w.heap.size + 1, 3, none⟩) lRB_3).trans RB_3_3, (hy.cell (p := ⟨w.heap.size + 1, 4, none⟩) lRB_3).trans RB_3_4, (hy.cell (p := ⟨w.heap.size + 1, 5, none⟩) lRB_3).trans RB_3_5, (hy.cell (p := ⟨w.heap.size + 1, 6, none⟩) lRB_3).trans RB_3_6, (hy.cell (p := ⟨w.heap.size + 1, 7, none⟩) lRB_3).trans RB_3_7, (hy.cell (p := ⟨w.heap.size + 1, 8, none⟩) lRB_3).trans RB_3_8⟩
      refine wp_region_held_drew (S := (fun w' => w'.cell? ⟨w.heap.size, 0, none⟩ = some (.int .i64 o) ∧ w'.cell? ⟨w.heap.size, 1, none⟩ = some (.int .i64 h) ∧ w'.cell? ⟨w.heap.size + 1, 0, none⟩ = some (.slice AT tn tc) ∧ w'.cell? ⟨w.heap.size + 1, 1, none⟩ = some (.int .i64 r.a) ∧ w'.cell? ⟨w.heap.size + 1, 2, none⟩ = some (.int .i64 r.b) ∧ w'.cell? ⟨w.heap.size + 1, 3, none⟩ = some (.int .i64 r.nc) ∧ w'.cell? ⟨w.heap.size + 1, 4, none⟩ = some (.int .i64 r.dn) ∧ w'.cell? ⟨w.heap.size + 1, 5, none⟩ = some (.int .i64 r.br) ∧ w'.cell? ⟨w.heap.size + 1, 6, none⟩ = some (.int .i64 r.em) ∧ w'.cell? ⟨w.heap.size + 1, 7, none⟩ = some (.int .i64 r.pa) ∧ w'.cell? ⟨w.heap.size + 1, 8, none⟩ = some (.int .i64 r.sc))) (by kernel_rfl) (HS.out _ (Below.refl _ _).drew) (fun hHeld => ?_)
      have hT0 : Below x3.heap.size x3 x3.drew := (Below.refl _ _).drew
      generalize hdr : x3.drew = y3v0 at *
      clear hdr
      refine tkH 0 ⟨some 40, _, _, _, _, _⟩ ?_ rfl ?_ (by assumption) ?_
      rotate_left
      · (intro w hSw; (try dsimp only at hSw); go_simp; all_goals with_reducible rfl)
      try simp only [Act.put, sA, sB, sC]
      refine tkH 1 ⟨some 41, _, _, _, _, _⟩ ?_ rfl ?_ (by assumption) ?_
      rotate_left
      · (intro w hSw; (try dsimp only at hSw); go_simp; all_goals with_reducible rfl)
      try simp only [Act.put, sA, sB, sC]
      refine tkH 2 ⟨some 42, _, _, _, _, _⟩ ?_ rfl ?_ (by assumption) ?_
      rotate_left
      · (intro w hSw; (try dsimp only at hSw); go_simp; all_goals with_reducible rfl)
      try simp only [Act.put, sA, sB, sC]
      refine tkH 3 ⟨some 43, _, _, _, _, _⟩ ?_ rfl ?_ (by assumption) ?_
      rotate_left
      · (intro w hSw; (try dsimp only at hSw); go_simp; all_goals with_reducible rfl)
      try simp only [Act.put, sA, sB, sC]
      refine tkH 4 ⟨some 44, _, _, _, _, _⟩ ?_ rfl ?_ (by assumption) ?_
      rotate_left
      · (intro w hSw; (try dsimp only at hSw); go_simp; (try simp only [e1, e2]); all_goals with_reducible rfl)
      try simp only [Act.put, sA, sB, sC]
      refine tkH 5 ⟨some 45, _, _, _, _, _⟩ ?_ rfl ?_ (by assumption) ?_
      rotate_left
      · (intro w hSw; (try dsimp only at hSw); go_simp; all_goals with_reducible rfl)
      try simp only [Act.put, sA, sB, sC]
      refine tkH 6 ⟨some 46, _, _, _, _, _⟩ ?_ rfl ?_ (by assumption) ?_
      rotate_left
      · (intro w hSw; (try dsimp only at hSw); go_simp; all_goals with_reducible rfl)
      try simp only [Act.put, sA, sB, sC]
      refine tkH 9 ⟨some 49, _, _, _, _, _⟩ ?_ rfl ?_ (by assumption) ?_
      rotate_left
      · (intro w hSw; (try dsimp only at hSw); go_simp; all_goals with_reducible rfl)
      try simp only [Act.put, sA, sB, sC]
      refine tkH 10 ⟨some 50, _, _, _, _, _⟩ ?_ rfl ?_ (by assumption) ?_
      rotate_left
      · (intro w hSw; (try dsimp only at hSw); go_simp; all_goals with_reducible rfl)
      try simp only [Act.put, sA, sB, sC]
      refine wpAnyH_ready (rs := [7]) (by kernel_rfl) (by simp) ?_
      refine AllReadyH.cons rfl (fun K hK => ?_) (AllReadyH.nil)
      go_simp
      refine (narB o h s dd nx nv _ k1 k2 k3 k4 k7 s0 s1 d0 d1 hnx hnv).mono ?_
      rintro e y3v1 ⟨rfl, hby3v0⟩
      have hT1 : Below x3.heap.size x3 y3v1 := hT0.trans (hby3v0.mono hT0.size)
      clear hby3v0
      go_wp2_with fail
      refine hK.out _ _ (HS.out _ hT1) (fun hHeld => ?_)
      clear hK K
      try simp only [Act.put, sA, sB, sC]
      refine tkH 8 ⟨some 48, _, _, _, _, _⟩ ?_ rfl ?_ (by assumption) ?_
      rotate_left
      · (intro w hSw; (try dsimp only at hSw); go_simp; all_goals with_reducible rfl)
      try simp only [Act.put, sA, sB, sC]
      refine tkH 11 ⟨some 51, _, _, _, _, _⟩ ?_ rfl ?_ (by assumption) ?_
      rotate_left
      · (intro w hSw; (try dsimp only at hSw); go_simp; all_goals with_reducible rfl)
      try simp only [Act.put, sA, sB, sC]
      refine wpAnyH_done (by kernel_rfl) ?_ _
      have hc4 : Below x3.heap.size x3 y3v1 := hT1
      have hB4 : Below w.heap.size w y3v1 := hB3.trans (hc4.mono hB3.size)
      have zu4 := hB4.size
      replace HOW := Lib.hid (HOW.out.below hc4)
      replace GB := Lib.hid (GB.out.below hc4)
      replace RB := Lib.hid (RB.out.below hc4)
      clear GB_3_0 GB_3_1 lGB_3 nGB_3 mGB_3 RB_3_0 RB_3_1 RB_3_2 RB_3_3 RB_3_4 RB_3_5 RB_3_6 RB_3_7 RB_3_8 lRB_3 nRB_3 mRB_3 zz3
      clear HS hHeld hT0 hT1 hB3 zu3
      obtain ⟨GB_4_0, GB_4_1⟩ := b2 GB.out
      have lGB_4 := GB.out.lt
      have nGB_4 : y3v1.heap.size ≠ w.heap.size := by omega
      have mGB_4 : w.heap.size ≠ y3v1.heap.size := by omega
      obtain ⟨RB_4_0, RB_4_1, RB_4_2, RB_4_3, RB_4_4, RB_4_5, RB_4_6, RB_4_7, RB_4_8⟩ := b9 RB.out
      have lRB_4 := RB.out.lt
      have nRB_4 : y3v1.heap.size ≠ w.heap.size + 1 := by omega
      have mRB_4 : w.heap.size + 1 ≠ y3v1.heap.size := by omega
      by_cases g2 : r.nc < nv
      · have G2 := Lib.hid g2
        go_wp2_with (at_builtin; refine wpList_append_slG rfl _ _ 42 rfl (w.heap.size + 2) 3 i0 (.int .i64 0) 1 8 Try.underlying42 HI.out HZ0.out HZ1.out HZ2.out rfl (by decide) (.slice A3 2 c3) 2 (rowsV inV [1, 2]) rfl (own_belowG HOW.out ((Below.refl _ _).alloc (Nat.le_refl _) _) (Nat.le_refl _)) (some ⟨y3v1.heap.size, 0, none⟩) 1 1 [.int .i64 3] rfl (fun h => by cases h) rfl (fun ad had j v hj => by cases had; rw [addNR, Nat.zero_add]; exact (BlkF.made (B := 0) y3v1 [.int .i64 3] 3 (Nat.zero_le _)).at' j v hj) (by intro v hv; simp at hv; subst hv; rfl) (by unfold maxLen; omega) (by omega) (by simp; omega) ?_)
        intro v5 x5 hown5 hgrow5 hblk5
        have hN5 : Below (w.heap.size + 2) y3v1 x5 := ((Below.refl (w.heap.size + 2) y3v1).alloc (by omega) _).grown hgrow5 (by simp; omega) (fun r hr => (own_blockG HOW.out r hr).1)
        obtain ⟨A5, c5, hv5, hS5, _, _, _, _⟩ := SlRows_own (f := inV) (n := 1) (L := [1, 2, 3]) (fun _ => rfl) hown5
        replace hv5 : v5 = .slice A5 3 c5 := hv5
        subst hv5
        replace HOW : Hid (OwR (w.heap.size + 2) (.slice A5 3 c5) 3 (rowsV inV [1, 2, 3]) x5) := Lib.hid hown5
        replace GB := Lib.hid (GB.out.belowN hN5 (by omega))
        replace RB := Lib.hid (RB.out.belowN hN5 (by omega))
        have hB5 : Below w.heap.size w x5 := hB4.trans (hN5.mono (by omega))
        have zu5 := hB5.size
        have zz5 := RB.out.lt
        clear hown5 hgrow5 hblk5 hN5 hS5 hB4 zu4 GB_4_0 GB_4_1 lGB_4 nGB_4 mGB_4 RB_4_0 RB_4_1 RB_4_2 RB_4_3 RB_4_4 RB_4_5 RB_4_6 RB_4_7 RB_4_8 lRB_4 nRB_4 mRB_4
        obtain ⟨GB_5_0, GB_5_1⟩ := b2 GB.out
        have lGB_5 := GB.out.lt
        have nGB_5 : x5.heap.size ≠ w.heap.size := by omega
        have mGB_5 : w.heap.size ≠ x5.heap.size := by omega
        obtain ⟨RB_5_0, RB_5_1, RB_5_2, RB_5_3, RB_5_4, RB_5_5, RB_5_6, RB_5_7, RB_5_8⟩ := b9 RB.out
        have lRB_5 := RB.out.lt
        have nRB_5 : x5.heap.size ≠ w.heap.size + 1 := by omega
        have mRB_5 : w.heap.size + 1 ≠ x5.heap.size := by omega
        go_upto_region 8 with (fail)
        have HS : Hid (∀ y, Below x5.heap.size x5 y → y.cell? ⟨w.heap.size, 0, none⟩ = some (.int .i64 o) ∧ y.cell? ⟨w.heap.size, 1, none⟩ = some (.int .i64 h) ∧ y.cell? ⟨w.heap.size + 1, 0, none⟩ = some (.slice AT tn tc) ∧ y.cell? ⟨w.heap.size + 1, 1, none⟩ = some (.int .i64 r.a) ∧ y.cell? ⟨w.heap.size + 1, 2, none⟩ = some (.int .i64 r.b) ∧ y.cell? ⟨w.heap.size + 1, 3, none⟩ = some (.int .i64 r.nc) ∧ y.cell? ⟨w.heap.size + 1, 4, none⟩ = some (.int .i64 r.dn) ∧ y.cell? ⟨w.heap.size + 1, 5, none⟩ = some (.int .i64 r.br) ∧ y.cell? ⟨w.heap.size + 1, 6, none⟩ = some (.int .i64 r.em) ∧ y.cell? ⟨w.heap.size + 1, 7, none⟩ = some (.int .i64 r.pa) ∧ y.cell? ⟨w.heap.size + 1, 8, none⟩ = some (.int .i64 r.sc)) := Lib.hid fun y hy => ⟨(hy.cell (p := ⟨w.heap.size, 0, none⟩) lGB_5).trans GB_5_0, (hy.cell (p := ⟨w.heap.size, 1, none⟩) lGB_5).trans GB_5_1, (hy.cell (p := ⟨w.heap.size + 1, 0, none⟩) lRB_5).trans RB_5_0, (hy.cell (p := ⟨w.heap.size + 1, 1, none⟩) lRB_5).trans RB_5_1, (hy.cell (p := ⟨w.heap.size + 1, 2, none⟩) lRB_5).trans RB_5_2, (hy.cell (p := ⟨w.heap.size + 1, 3, none⟩) lRB_5).trans RB_5_3, (hy.cell (p := ⟨w.heap.size + 1, 4, none⟩) lRB_5).trans RB_5_4, (hy.cell (p := ⟨w.heap.size + 1, 5, none⟩) lRB_5).trans RB_5_5, (hy.cell (p := ⟨w.heap.size + 1, 6, none⟩) lRB_5).trans RB_5_6, (hy.cell (p := ⟨w.heap.size + 1, 7, none⟩) lRB_5).trans RB_5_7, (hy.cell (p := ⟨w.heap.size + 1, 8, none⟩) lRB_5).trans RB_5_8⟩
        refine wp_region_held_drew (S := (fun w' => w'.cell? ⟨w.heap.size, 0, none⟩ = some (.int .i64 o) ∧ w'.cell? ⟨w.heap.size, 1, none⟩ = some (.int .i64 h) ∧ w'.cell? ⟨w.heap.size + 1, 0, none⟩ = some (.slice AT tn tc) ∧ w'.cell? ⟨w.heap.size + 1, 1, none⟩ = some (.int .i64 r.a) ∧ w'.cell? ⟨w.heap.size + 1, 2, none⟩ = some (.int .i64 r.b) ∧ w'.cell? ⟨w.heap.size + 1, 3, none⟩ = some (.int .i64 r.nc) ∧ w'.cell? ⟨w.heap.size + 1, 4, none⟩ = some (.int .i64 r.dn) ∧ w'.cell? ⟨w.heap.size + 1, 5, none⟩ = some (.int .i64 r.br) ∧ w'.cell? ⟨w.heap.size + 1, 6, none⟩ = some (.int .i64 r.em) ∧ w'.cell? ⟨w.heap.size + 1, 7, none⟩ = some (.int .i64 r.pa) ∧ w'.cell? ⟨w.heap.size + 1, 8, none⟩ = some (.int .i64 r.sc))) (by kernel_rfl) (HS.out _ (Below.refl _ _).drew) (fun hHeld => ?_)
        have hT0 : Below x5.heap.size x5 x5.drew := (Below.refl _ _).drew
        generalize hdr : x5.drew = y5v0 at *
        clear hdr
        refine tkH 0 ⟨some 55, _, _, _, _, _⟩ ?_ rfl ?_ (by assumption) ?_
        rotate_left
        · (intro w hSw; (try dsimp only at hSw); go_simp; all_goals with_reducible rfl)
        try simp only [Act.put, sA, sB, sC]
        refine tkH 1 ⟨some 56, _, _, _, _, _⟩ ?_ rfl ?_ (by assumption) ?_
        rotate_left
        · (intro w hSw; (try dsimp only at hSw); go_simp; all_goals with_reducible rfl)
        try simp only [Act.put, sA, sB, sC]
        refine tkH 2 ⟨some 57, _, _, _, _, _⟩ ?_ rfl ?_ (by assumption) ?_
        rotate_left
        · (intro w hSw; (try dsimp only at hSw); go_simp; all_goals with_reducible rfl)
        try simp only [Act.put, sA, sB, sC]
        refine tkH 3 ⟨some 58, _, _, _, _, _⟩ ?_ rfl ?_ (by assumption) ?_
        rotate_left
        · (intro w hSw; (try dsimp only at hSw); go_simp; (try simp only [e1, e2]); all_goals with_reducible rfl)
        try simp only [Act.put, sA, sB, sC]
        refine tkH 6 ⟨some 61, _, _, _, _, _⟩ ?_ rfl ?_ (by assumption) ?_
        rotate_left
        · (intro w hSw; (try dsimp only at hSw); go_simp; all_goals with_reducible rfl)
        try simp only [Act.put, sA, sB, sC]
        refine tkH 7 ⟨some 62, _, _, _, _, _⟩ ?_ rfl ?_ (by assumption) ?_
        rotate_left
        · (intro w hSw; (try dsimp only at hSw); go_simp; all_goals with_reducible rfl)
        try simp only [Act.put, sA, sB, sC]
        refine wpAnyH_ready (rs := [4]) (by kernel_rfl) (by simp) ?_
        refine AllReadyH.cons rfl (fun K hK => ?_) (AllReadyH.nil)
        go_simp
        refine (denB o h s hi dx dv _ k1 k2 k3 k4 k7 h0 h9 hdx hdv).mono ?_
        rintro e y5v1 ⟨rfl, hby5v0⟩
        have hT1 : Below x5.heap.size x5 y5v1 := hT0.trans (hby5v0.mono hT0.size)
        clear hby5v0
        go_wp2_with fail
        refine hK.out _ _ (HS.out _ hT1) (fun hHeld => ?_)
        clear hK K
        try simp only [Act.put, sA, sB, sC]
        refine tkH 5 ⟨some 60, _, _, _, _, _⟩ ?_ rfl ?_ (by assumption) ?_
        rotate_left
        · (intro w hSw; (try dsimp only at hSw); go_simp; all_goals with_reducible rfl)
        try simp only [Act.put, sA, sB, sC]
        refine tkH 8 ⟨some 63, _, _, _, _, _⟩ ?_ rfl ?_ (by assumption) ?_
        rotate_left
        · (intro w hSw; (try dsimp only at hSw); go_simp; all_goals with_reducible rfl)
        try simp only [Act.put, sA, sB, sC]
        refine wpAnyH_done (by kernel_rfl) ?_ _
        have hc6 : Below x5.heap.size x5 y5v1 := hT1
        have hB6 : Below w.heap.size w y5v1 := hB5.trans (hc6.mono hB5.size)
        have zu6 := hB6.size
        replace HOW := Lib.hid (HOW.out.below hc6)
        replace GB := Lib.hid (GB.out.below hc6)
        replace RB := Lib.hid (RB.out.below hc6)
        clear GB_5_0 GB_5_1 lGB_5 nGB_5 mGB_5 RB_5_0 RB_5_1 RB_5_2 RB_5_3 RB_5_4 RB_5_5 RB_5_6 RB_5_7 RB_5_8 lRB_5 nRB_5 mRB_5 zz5
        clear HS hHeld hT0 hT1 hB5 zu5
        obtain ⟨GB_6_0, GB_6_1⟩ := b2 GB.out
        have lGB_6 := GB.out.lt
        have nGB_6 : y5v1.heap.size ≠ w.heap.size := by omega
        have mGB_6 : w.heap.size ≠ y5v1.heap.size := by omega
        obtain ⟨RB_6_0, RB_6_1, RB_6_2, RB_6_3, RB_6_4, RB_6_5, RB_6_6, RB_6_7, RB_6_8⟩ := b9 RB.out
        have lRB_6 := RB.out.lt
        have nRB_6 : y5v1.heap.size ≠ w.heap.size + 1 := by omega
        have mRB_6 : w.heap.size + 1 ≠ y5v1.heap.size := by omega
        by_cases g3 : r.dn < dv
        · have G3 := Lib.hid g3
          go_wp2_with (at_builtin; refine wpList_append_slG rfl _ _ 42 rfl (w.heap.size + 2) 3 i0 (.int .i64 0) 1 8 Try.underlying42 HI.out HZ0.out HZ1.out HZ2.out rfl (by decide) (.slice A5 3 c5) 3 (rowsV inV [1, 2, 3]) rfl (own_belowG HOW.out ((Below.refl _ _).alloc (Nat.le_refl _) _) (Nat.le_refl _)) (some ⟨y5v1.heap.size, 0, none⟩) 1 1 [.int .i64 4] rfl (fun h => by cases h) rfl (fun ad had j v hj => by cases had; rw [addNR, Nat.zero_add]; exact (BlkF.made (B := 0) y5v1 [.int .i64 4] 3 (Nat.zero_le _)).at' j v hj) (by intro v hv; simp at hv; subst hv; rfl) (by unfold maxLen; omega) (by omega) (by simp; omega) ?_)
          intro v7 x7 hown7 hgrow7 hblk7
          have hN7 : Below (w.heap.size + 2) y5v1 x7 := ((Below.refl (w.heap.size + 2) y5v1).alloc (by omega) _).grown hgrow7 (by simp; omega) (fun r hr => (own_blockG HOW.out r hr).1)
          obtain ⟨A7, c7, hv7, hS7, _, _, _, _⟩ := SlRows_own (f := inV) (n := 1) (L := [1, 2, 3, 4]) (fun _ => rfl) hown7
          replace hv7 : v7 = .slice A7 4 c7 := hv7
          subst hv7
          replace HOW : Hid (OwR (w.heap.size + 2) (.slice A7 4 c7) 4 (rowsV inV [1, 2, 3, 4]) x7) := Lib.hid hown7
          replace GB := Lib.hid (GB.out.belowN hN7 (by omega))
          replace RB := Lib.hid (RB.out.belowN hN7 (by omega))
          have hB7 : Below w.heap.size w x7 := hB6.trans (hN7.mono (by omega))
          have zu7 := hB7.size
          have zz7 := RB.out.lt
          clear hown7 hgrow7 hblk7 hN7 hS7 hB6 zu6 GB_6_0 GB_6_1 lGB_6 nGB_6 mGB_6 RB_6_0 RB_6_1 RB_6_2 RB_6_3 RB_6_4 RB_6_5 RB_6_6 RB_6_7 RB_6_8 lRB_6 nRB_6 mRB_6
          obtain ⟨GB_7_0, GB_7_1⟩ := b2 GB.out
          have lGB_7 := GB.out.lt
          have nGB_7 : x7.heap.size ≠ w.heap.size := by omega
          have mGB_7 : w.heap.size ≠ x7.heap.size := by omega
          obtain ⟨RB_7_0, RB_7_1, RB_7_2, RB_7_3, RB_7_4, RB_7_5, RB_7_6, RB_7_7, RB_7_8⟩ := b9 RB.out
          have lRB_7 := RB.out.lt
          have nRB_7 : x7.heap.size ≠ w.heap.size + 1 := by omega
          have mRB_7 : w.heap.size + 1 ≠ x7.heap.size := by omega
          go_wp2
          go_ret
          have hQ : Hid (L = [1, 2, 3, 4]) := Lib.hid (by rw [← hL.out]; rw [hLL.out, if_pos (show o * lo < 1000 * r.a by have := G0.out; omega), if_pos (show 1000 * r.b < o * hi by have := G1.out; omega), if_pos (show r.nc < nv by have := G2.out; omega), if_pos (show r.dn < dv by have := G3.out; omega)]; rfl)
          obtain rfl := hQ.out
          obtain ⟨Az, cz, hvz, hSz, hgz, _, _, _⟩ := SlRows_own (f := inV) (n := 1) (L := [1, 2, 3, 4]) (fun _ => rfl) HOW.out
          injection hvz with hq _ _
          rw [← hq] at hSz hgz
          first | exact ⟨A7, ⟨c7, rfl⟩, hSz, (fun ad h => Nat.le_trans (by omega) (hgz ad h)), hB7⟩ | exact ⟨A7, c7, rfl, hSz, (fun ad h => Nat.le_trans (by omega) (hgz ad h)), hB7⟩
        · have G3 := Lib.hid g3
          go_wp2
          go_ret
          have hQ : Hid (L = [1, 2, 3]) := Lib.hid (by rw [← hL.out]; rw [hLL.out, if_pos (show o * lo < 1000 * r.a by have := G0.out; omega), if_pos (show 1000 * r.b < o * hi by have := G1.out; omega), if_pos (show r.nc < nv by have := G2.out; omega), if_neg (show ¬ r.dn < dv by have := G3.out; omega)]; rfl)
          obtain rfl := hQ.out
          obtain ⟨Az, cz, hvz, hSz, hgz, _, _, _⟩ := SlRows_own (f := inV) (n := 1) (L := [1, 2, 3]) (fun _ => rfl) HOW.out
          injection hvz with hq _ _
          rw [← hq] at hSz hgz
          first | exact ⟨A5, ⟨c5, rfl⟩, hSz, (fun ad h => Nat.le_trans (by omega) (hgz ad h)), hB6⟩ | exact ⟨A5, c5, rfl, hSz, (fun ad h => Nat.le_trans (by omega) (hgz ad h)), hB6⟩
      · have G2 := Lib.hid g2
        go_upto_region 8 with (fail)
        have HS : Hid (∀ y, Below y3v1.heap.size y3v1 y → y.cell? ⟨w.heap.size, 0, none⟩ = some (.int .i64 o) ∧ y.cell? ⟨w.heap.size, 1, none⟩ = some (.int .i64 h) ∧ y.cell? ⟨w.heap.size + 1, 0, none⟩ = some (.slice AT tn tc) ∧ y.cell? ⟨w.heap.size + 1, 1, none⟩ = some (.int .i64 r.a) ∧ y.cell? ⟨w.heap.size + 1, 2, none⟩ = some (.int .i64 r.b) ∧ y.cell? ⟨w.heap.size + 1, 3, none⟩ = some (.int .i64 r.nc) ∧ y.cell? ⟨w.heap.size + 1, 4, none⟩ = some (.int .i64 r.dn) ∧ y.cell? ⟨w.heap.size + 1, 5, none⟩ = some (.int .i64 r.br) ∧ y.cell? ⟨w.heap.size + 1, 6, none⟩ = some (.int .i64 r.em) ∧ y.cell? ⟨w.heap.size + 1, 7, none⟩ = some (.int .i64 r.pa) ∧ y.cell? ⟨w.heap.size + 1, 8, none⟩ = some (.int .i64 r.sc)) := Lib.hid fun y hy => ⟨(hy.cell (p := ⟨w.heap.size, 0, none⟩) lGB_4).trans GB_4_0, (hy.cell (p := ⟨w.heap.size, 1, none⟩) lGB_4).trans GB_4_1, (hy.cell (p := ⟨w.heap.size + 1, 0, none⟩) lRB_4).trans RB_4_0, (hy.cell (p := ⟨w.heap.size + 1, 1, none⟩) lRB_4).trans RB_4_1, (hy.cell (p := ⟨w.heap.size + 1, 2, none⟩) lRB_4).trans RB_4_2, (hy.cell (p := ⟨w.heap.size + 1, 3, none⟩) lRB_4).trans RB_4_3, (hy.cell (p := ⟨w.heap.size + 1, 4, none⟩) lRB_4).trans RB_4_4, (hy.cell (p := ⟨w.heap.size + 1, 5, none⟩) lRB_4).trans RB_4_5, (hy.cell (p := ⟨w.heap.size + 1, 6, none⟩) lRB_4).trans RB_4_6, (hy.cell (p := ⟨w.heap.size + 1, 7, none⟩) lRB_4).trans RB_4_7, (hy.cell (p := ⟨w.heap.size + 1, 8, none⟩) lRB_4).trans RB_4_8⟩
        refine wp_region_held_drew (S := (fun w' => w'.cell? ⟨w.heap.size, 0, none⟩ = some (.int .i64 o) ∧ w'.cell? ⟨w.heap.size, 1, none⟩ = some (.int .i64 h) ∧ w'.cell? ⟨w.heap.size + 1, 0, none⟩ = some (.slice AT tn tc) ∧ w'.cell? ⟨w.heap.size + 1, 1, none⟩ = some (.int .i64 r.a) ∧ w'.cell? ⟨w.heap.size + 1, 2, none⟩ = some (.int .i64 r.b) ∧ w'.cell? ⟨w.heap.size + 1, 3, none⟩ = some (.int .i64 r.nc) ∧ w'.cell? ⟨w.heap.size + 1, 4, none⟩ = some (.int .i64 r.dn) ∧ w'.cell? ⟨w.heap.size + 1, 5, none⟩ = some (.int .i64 r.br) ∧ w'.cell? ⟨w.heap.size + 1, 6, none⟩ = some (.int .i64 r.em) ∧ w'.cell? ⟨w.heap.size + 1, 7, none⟩ = some (.int .i64 r.pa) ∧ w'.cell? ⟨w.heap.size + 1, 8, none⟩ = some (.int .i64 r.sc))) (by kernel_rfl) (HS.out _ (Below.refl _ _).drew) (fun hHeld => ?_)
        have hT0 : Below y3v1.heap.size y3v1 y3v1.drew := (Below.refl _ _).drew
        generalize hdr : y3v1.drew = y4v0 at *
        clear hdr
        refine tkH 0 ⟨some 55, _, _, _, _, _⟩ ?_ rfl ?_ (by assumption) ?_
        rotate_left
        · (intro w hSw; (try dsimp only at hSw); go_simp; all_goals with_reducible rfl)
        try simp only [Act.put, sA, sB, sC]
        refine tkH 1 ⟨some 56, _, _, _, _, _⟩ ?_ rfl ?_ (by assumption) ?_
        rotate_left
        · (intro w hSw; (try dsimp only at hSw); go_simp; all_goals with_reducible rfl)
        try simp only [Act.put, sA, sB, sC]
        refine tkH 2 ⟨some 57, _, _, _, _, _⟩ ?_ rfl ?_ (by assumption) ?_
        rotate_left
        · (intro w hSw; (try dsimp only at hSw); go_simp; all_goals with_reducible rfl)
        try simp only [Act.put, sA, sB, sC]
        refine tkH 3 ⟨some 58, _, _, _, _, _⟩ ?_ rfl ?_ (by assumption) ?_
        rotate_left
        · (intro w hSw; (try dsimp only at hSw); go_simp; (try simp only [e1, e2]); all_goals with_reducible rfl)
        try simp only [Act.put, sA, sB, sC]
        refine tkH 6 ⟨some 61, _, _, _, _, _⟩ ?_ rfl ?_ (by assumption) ?_
        rotate_left
        · (intro w hSw; (try dsimp only at hSw); go_simp; all_goals with_reducible rfl)
        try simp only [Act.put, sA, sB, sC]
        refine tkH 7 ⟨some 62, _, _, _, _, _⟩ ?_ rfl ?_ (by assumption) ?_
        rotate_left
        · (intro w hSw; (try dsimp only at hSw); go_simp; all_goals with_reducible rfl)
        try simp only [Act.put, sA, sB, sC]
        refine wpAnyH_ready (rs := [4]) (by kernel_rfl) (by simp) ?_
        refine AllReadyH.cons rfl (fun K hK => ?_) (AllReadyH.nil)
        go_simp
        refine (denB o h s hi dx dv _ k1 k2 k3 k4 k7 h0 h9 hdx hdv).mono ?_
        rintro e y4v1 ⟨rfl, hby4v0⟩
        have hT1 : Below y3v1.heap.size y3v1 y4v1 := hT0.trans (hby4v0.mono hT0.size)
        clear hby4v0
        go_wp2_with fail
        refine hK.out _ _ (HS.out _ hT1) (fun hHeld => ?_)
        clear hK K
        try simp only [Act.put, sA, sB, sC]
        refine tkH 5 ⟨some 60, _, _, _, _, _⟩ ?_ rfl ?_ (by assumption) ?_
        rotate_left
        · (intro w hSw; (try dsimp only at hSw); go_simp; all_goals with_reducible rfl)
        try simp only [Act.put, sA, sB, sC]
        refine tkH 8 ⟨some 63, _, _, _, _, _⟩ ?_ rfl ?_ (by assumption) ?_
        rotate_left
        · (intro w hSw; (try dsimp only at hSw); go_simp; all_goals with_reducible rfl)
        try simp only [Act.put, sA, sB, sC]
        refine wpAnyH_done (by kernel_rfl) ?_ _
        have hc5 : Below y3v1.heap.size y3v1 y4v1 := hT1
        have hB5 : Below w.heap.size w y4v1 := hB4.trans (hc5.mono hB4.size)
        have zu5 := hB5.size
        replace HOW := Lib.hid (HOW.out.below hc5)
        replace GB := Lib.hid (GB.out.below hc5)
        replace RB := Lib.hid (RB.out.below hc5)
        clear GB_4_0 GB_4_1 lGB_4 nGB_4 mGB_4 RB_4_0 RB_4_1 RB_4_2 RB_4_3 RB_4_4 RB_4_5 RB_4_6 RB_4_7 RB_4_8 lRB_4 nRB_4 mRB_4
        clear HS hHeld hT0 hT1 hB4 zu4 hc4
        obtain ⟨GB_5_0, GB_5_1⟩ := b2 GB.out
        have lGB_5 := GB.out.lt
        have nGB_5 : y4v1.heap.size ≠ w.heap.size := by omega
        have mGB_5 : w.heap.size ≠ y4v1.heap.size := by omega
        obtain ⟨RB_5_0, RB_5_1, RB_5_2, RB_5_3, RB_5_4, RB_5_5, RB_5_6, RB_5_7, RB_5_8⟩ := b9 RB.out
        have lRB_5 := RB.out.lt
        have nRB_5 : y4v1.heap.size ≠ w.heap.size + 1 := by omega
        have mRB_5 : w.heap.size + 1 ≠ y4v1.heap.size := by omega
        by_cases g3 : r.dn < dv
        · have G3 := Lib.hid g3
          go_wp2_with (at_builtin; refine wpList_append_slG rfl _ _ 42 rfl (w.heap.size + 2) 3 i0 (.int .i64 0) 1 8 Try.underlying42 HI.out HZ0.out HZ1.out HZ2.out rfl (by decide) (.slice A3 2 c3) 2 (rowsV inV [1, 2]) rfl (own_belowG HOW.out ((Below.refl _ _).alloc (Nat.le_refl _) _) (Nat.le_refl _)) (some ⟨y4v1.heap.size, 0, none⟩) 1 1 [.int .i64 4] rfl (fun h => by cases h) rfl (fun ad had j v hj => by cases had; rw [addNR, Nat.zero_add]; exact (BlkF.made (B := 0) y4v1 [.int .i64 4] 3 (Nat.zero_le _)).at' j v hj) (by intro v hv; simp at hv; subst hv; rfl) (by unfold maxLen; omega) (by omega) (by simp; omega) ?_)
          intro v6 x6 hown6 hgrow6 hblk6
          have hN6 : Below (w.heap.size + 2) y4v1 x6 := ((Below.refl (w.heap.size + 2) y4v1).alloc (by omega) _).grown hgrow6 (by simp; omega) (fun r hr => (own_blockG HOW.out r hr).1)
          obtain ⟨A6, c6, hv6, hS6, _, _, _, _⟩ := SlRows_own (f := inV) (n := 1) (L := [1, 2, 4]) (fun _ => rfl) hown6
          replace hv6 : v6 = .slice A6 3 c6 := hv6
          subst hv6
          replace HOW : Hid (OwR (w.heap.size + 2) (.slice A6 3 c6) 3 (rowsV inV [1, 2, 4]) x6) := Lib.hid hown6
          replace GB := Lib.hid (GB.out.belowN hN6 (by omega))
          replace RB := Lib.hid (RB.out.belowN hN6 (by omega))
          have hB6 : Below w.heap.size w x6 := hB5.trans (hN6.mono (by omega))
          have zu6 := hB6.size
          have zz6 := RB.out.lt
          clear hown6 hgrow6 hblk6 hN6 hS6 hB5 zu5 GB_5_0 GB_5_1 lGB_5 nGB_5 mGB_5 RB_5_0 RB_5_1 RB_5_2 RB_5_3 RB_5_4 RB_5_5 RB_5_6 RB_5_7 RB_5_8 lRB_5 nRB_5 mRB_5
          obtain ⟨GB_6_0, GB_6_1⟩ := b2 GB.out
          have lGB_6 := GB.out.lt
          have nGB_6 : x6.heap.size ≠ w.heap.size := by omega
          have mGB_6 : w.heap.size ≠ x6.heap.size := by omega
          obtain ⟨RB_6_0, RB_6_1, RB_6_2, RB_6_3, RB_6_4, RB_6_5, RB_6_6, RB_6_7, RB_6_8⟩ := b9 RB.out
          have lRB_6 := RB.out.lt
          have nRB_6 : x6.heap.size ≠ w.heap.size + 1 := by omega
          have mRB_6 : w.heap.size + 1 ≠ x6.heap.size := by omega
          go_wp2
          go_ret
          have hQ : Hid (L = [1, 2, 4]) := Lib.hid (by rw [← hL.out]; rw [hLL.out, if_pos (show o * lo < 1000 * r.a by have := G0.out; omega), if_pos (show 1000 * r.b < o * hi by have := G1.out; omega), if_neg (show ¬ r.nc < nv by have := G2.out; omega), if_pos (show r.dn < dv by have := G3.out; omega)]; rfl)
          obtain rfl := hQ.out
          obtain ⟨Az, cz, hvz, hSz, hgz, _, _, _⟩ := SlRows_own (f := inV) (n := 1) (L := [1, 2, 4]) (fun _ => rfl) HOW.out
          injection hvz with hq _ _
          rw [← hq] at hSz hgz
          first | exact ⟨A6, ⟨c6, rfl⟩, hSz, (fun ad h => Nat.le_trans (by omega) (hgz ad h)), hB6⟩ | exact ⟨A6, c6, rfl, hSz, (fun ad h => Nat.le_trans (by omega) (hgz ad h)), hB6⟩
        · have G3 := Lib.hid g3
          go_wp2
          go_ret
          have hQ : Hid (L = [1, 2]) := Lib.hid (by rw [← hL.out]; rw [hLL.out, if_pos (show o * lo < 1000 * r.a by have := G0.out; omega), if_pos (show 1000 * r.b < o * hi by have := G1.out; omega), if_neg (show ¬ r.nc < nv by have := G2.out; omega), if_neg (show ¬ r.dn < dv by have := G3.out; omega)]; rfl)
          obtain rfl := hQ.out
          obtain ⟨Az, cz, hvz, hSz, hgz, _, _, _⟩ := SlRows_own (f := inV) (n := 1) (L := [1, 2]) (fun _ => rfl) HOW.out
          injection hvz with hq _ _
          rw [← hq] at hSz hgz
          first | exact ⟨A3, ⟨c3, rfl⟩, hSz, (fun ad h => Nat.le_trans (by omega) (hgz ad h)), hB5⟩ | exact ⟨A3, c3, rfl, hSz, (fun ad h => Nat.le_trans (by omega) (hgz ad h)), hB5⟩
    · have G1 := Lib.hid g1
      go_upto_region 6 with (fail)
      have HS : Hid (∀ y, Below x2.heap.size x2 y → y.cell? ⟨w.heap.size, 0, none⟩ = some (.int .i64 o) ∧ y.cell? ⟨w.heap.size, 1, none⟩ = some (.int .i64 h) ∧ y.cell? ⟨w.heap.size + 1, 0, none⟩ = some (.slice AT tn tc) ∧ y.cell? ⟨w.heap.size + 1, 1, none⟩ = some (.int .i64 r.a) ∧ y.cell? ⟨w.heap.size + 1, 2, none⟩ = some (.int .i64 r.b) ∧ y.cell? ⟨w.heap.size + 1, 3, none⟩ = some (.int .i64 r.nc) ∧ y.cell? ⟨w.heap.size + 1, 4, none⟩ = some (.int .i64 r.dn) ∧ y.cell? ⟨w.heap.size + 1, 5, none⟩ = some (.int .i64 r.br) ∧ y.cell? ⟨w.heap.size + 1, 6, none⟩ = some (.int .i64 r.em) ∧ y.cell? ⟨w.heap.size + 1, 7, none⟩ = some (.int .i64 r.pa) ∧ y.cell? ⟨w.heap.size + 1, 8, none⟩ = some (.int .i64 r.sc)) := Lib.hid fun y hy => ⟨(hy.cell (p := ⟨w.heap.size, 0, none⟩) lGB_2).trans GB_2_0, (hy.cell (p := ⟨w.heap.size, 1, none⟩) lGB_2).trans GB_2_1, (hy.cell (p := ⟨w.heap.size + 1, 0, none⟩) lRB_2).trans RB_2_0, (hy.cell (p := ⟨w.heap.size + 1, 1, none⟩) lRB_2).trans RB_2_1, (hy.cell (p := ⟨w.heap.size + 1, 2, none⟩) lRB_2).trans RB_2_2, (hy.cell (p := ⟨w.heap.size + 1, 3, none⟩) lRB_2).trans RB_2_3, (hy.cell (p := ⟨w.heap.size + 1, 4, none⟩) lRB_2).trans RB_2_4, (hy.cell (p := ⟨w.heap.size + 1, 5, none⟩) lRB_2).trans RB_2_5, (hy.cell (p := ⟨w.heap.size + 1, 6, none⟩) lRB_2).trans RB_2_6, (hy.cell (p := ⟨w.heap.size + 1, 7, none⟩) lRB_2).trans RB_2_7, (hy.cell (p := ⟨w.heap.size + 1, 8, none⟩) lRB_2).trans RB_2_8⟩
      refine wp_region_held_drew (S := (fun w' => w'.cell? ⟨w.heap.size, 0, none⟩ = some (.int .i64 o) ∧ w'.cell? ⟨w.heap.size, 1, none⟩ = some (.int .i64 h) ∧ w'.cell? ⟨w.heap.size + 1, 0, none⟩ = some (.slice AT tn tc) ∧ w'.cell? ⟨w.heap.size + 1, 1, none⟩ = some (.int .i64 r.a) ∧ w'.cell? ⟨w.heap.size + 1, 2, none⟩ = some (.int .i64 r.b) ∧ w'.cell? ⟨w.heap.size + 1, 3, none⟩ = some (.int .i64 r.nc) ∧ w'.cell? ⟨w.heap.size + 1, 4, none⟩ = some (.int .i64 r.dn) ∧ w'.cell? ⟨w.heap.size + 1, 5, none⟩ = some (.int .i64 r.br) ∧ w'.cell? ⟨w.heap.size + 1, 6, none⟩ = some (.int .i64 r.em) ∧ w'.cell? ⟨w.heap.size + 1, 7, none⟩ = some (.int .i64 r.pa) ∧ w'.cell? ⟨w.heap.size + 1, 8, none⟩ = some (.int .i64 r.sc))) (by kernel_rfl) (HS.out _ (Below.refl _ _).drew) (fun hHeld => ?_)
      have hT0 : Below x2.heap.size x2 x2.drew := (Below.refl _ _).drew
      generalize hdr : x2.drew = y2v0 at *
      clear hdr
      refine tkH 0 ⟨some 40, _, _, _, _, _⟩ ?_ rfl ?_ (by assumption) ?_
      rotate_left
      · (intro w hSw; (try dsimp only at hSw); go_simp; all_goals with_reducible rfl)
      try simp only [Act.put, sA, sB, sC]
      refine tkH 1 ⟨some 41, _, _, _, _, _⟩ ?_ rfl ?_ (by assumption) ?_
      rotate_left
      · (intro w hSw; (try dsimp only at hSw); go_simp; all_goals with_reducible rfl)
      try simp only [Act.put, sA, sB, sC]
      refine tkH 2 ⟨some 42, _, _, _, _, _⟩ ?_ rfl ?_ (by assumption) ?_
      rotate_left
      · (intro w hSw; (try dsimp only at hSw); go_simp; all_goals with_reducible rfl)
      try simp only [Act.put, sA, sB, sC]
      refine tkH 3 ⟨some 43, _, _, _, _, _⟩ ?_ rfl ?_ (by assumption) ?_
      rotate_left
      · (intro w hSw; (try dsimp only at hSw); go_simp; all_goals with_reducible rfl)
      try simp only [Act.put, sA, sB, sC]
      refine tkH 4 ⟨some 44, _, _, _, _, _⟩ ?_ rfl ?_ (by assumption) ?_
      rotate_left
      · (intro w hSw; (try dsimp only at hSw); go_simp; (try simp only [e1, e2]); all_goals with_reducible rfl)
      try simp only [Act.put, sA, sB, sC]
      refine tkH 5 ⟨some 45, _, _, _, _, _⟩ ?_ rfl ?_ (by assumption) ?_
      rotate_left
      · (intro w hSw; (try dsimp only at hSw); go_simp; all_goals with_reducible rfl)
      try simp only [Act.put, sA, sB, sC]
      refine tkH 6 ⟨some 46, _, _, _, _, _⟩ ?_ rfl ?_ (by assumption) ?_
      rotate_left
      · (intro w hSw; (try dsimp only at hSw); go_simp; all_goals with_reducible rfl)
      try simp only [Act.put, sA, sB, sC]
      refine tkH 9 ⟨some 49, _, _, _, _, _⟩ ?_ rfl ?_ (by assumption) ?_
      rotate_left
      · (intro w hSw; (try dsimp only at hSw); go_simp; all_goals with_reducible rfl)
      try simp only [Act.put, sA, sB, sC]
      refine tkH 10 ⟨some 50, _, _, _, _, _⟩ ?_ rfl ?_ (by assumption) ?_
      rotate_left
      · (intro w hSw; (try dsimp only at hSw); go_simp; all_goals with_reducible rfl)
      try simp only [Act.put, sA, sB, sC]
      refine wpAnyH_ready (rs := [7]) (by kernel_rfl) (by simp) ?_
      refine AllReadyH.cons rfl (fun K hK => ?_) (AllReadyH.nil)
      go_simp
      refine (narB o h s dd nx nv _ k1 k2 k3 k4 k7 s0 s1 d0 d1 hnx hnv).mono ?_
      rintro e y2v1 ⟨rfl, hby2v0⟩
      have hT1 : Below x2.heap.size x2 y2v1 := hT0.trans (hby2v0.mono hT0.size)
      clear hby2v0
      go_wp2_with fail
      refine hK.out _ _ (HS.out _ hT1) (fun hHeld => ?_)
      clear hK K
      try simp only [Act.put, sA, sB, sC]
      refine tkH 8 ⟨some 48, _, _, _, _, _⟩ ?_ rfl ?_ (by assumption) ?_
      rotate_left
      · (intro w hSw; (try dsimp only at hSw); go_simp; all_goals with_reducible rfl)
      try simp only [Act.put, sA, sB, sC]
      refine tkH 11 ⟨some 51, _, _, _, _, _⟩ ?_ rfl ?_ (by assumption) ?_
      rotate_left
      · (intro w hSw; (try dsimp only at hSw); go_simp; all_goals with_reducible rfl)
      try simp only [Act.put, sA, sB, sC]
      refine wpAnyH_done (by kernel_rfl) ?_ _
      have hc3 : Below x2.heap.size x2 y2v1 := hT1
      have hB3 : Below w.heap.size w y2v1 := hB2.trans (hc3.mono hB2.size)
      have zu3 := hB3.size
      replace HOW := Lib.hid (HOW.out.below hc3)
      replace GB := Lib.hid (GB.out.below hc3)
      replace RB := Lib.hid (RB.out.below hc3)
      clear GB_2_0 GB_2_1 lGB_2 nGB_2 mGB_2 RB_2_0 RB_2_1 RB_2_2 RB_2_3 RB_2_4 RB_2_5 RB_2_6 RB_2_7 RB_2_8 lRB_2 nRB_2 mRB_2 zz2
      clear HS hHeld hT0 hT1 hB2 zu2
      obtain ⟨GB_3_0, GB_3_1⟩ := b2 GB.out
      have lGB_3 := GB.out.lt
      have nGB_3 : y2v1.heap.size ≠ w.heap.size := by omega
      have mGB_3 : w.heap.size ≠ y2v1.heap.size := by omega
      obtain ⟨RB_3_0, RB_3_1, RB_3_2, RB_3_3, RB_3_4, RB_3_5, RB_3_6, RB_3_7, RB_3_8⟩ := b9 RB.out
      have lRB_3 := RB.out.lt
      have nRB_3 : y2v1.heap.size ≠ w.heap.size + 1 := by omega
      have mRB_3 : w.heap.size + 1 ≠ y2v1.heap.size := by omega
      by_cases g2 : r.nc < nv
      · have G2 := Lib.hid g2
        go_wp2_with (at_builtin; refine wpList_append_slG rfl _ _ 42 rfl (w.heap.size + 2) 3 i0 (.int .i64 0) 1 8 Try.underlying42 HI.out HZ0.out HZ1.out HZ2.out rfl (by decide) (.slice A2 1 c2) 1 (rowsV inV [1]) rfl (own_belowG HOW.out ((Below.refl _ _).alloc (Nat.le_refl _) _) (Nat.le_refl _)) (some ⟨y2v1.heap.size, 0, none⟩) 1 1 [.int .i64 3] rfl (fun h => by cases h) rfl (fun ad had j v hj => by cases had; rw [addNR, Nat.zero_add]; exact (BlkF.made (B := 0) y2v1 [.int .i64 3] 3 (Nat.zero_le _)).at' j v hj) (by intro v hv; simp at hv; subst hv; rfl) (by unfold maxLen; omega) (by omega) (by simp; omega) ?_)
        intro v4 x4 hown4 hgrow4 hblk4
        have hN4 : Below (w.heap.size + 2) y2v1 x4 := ((Below.refl (w.heap.size + 2) y2v1).alloc (by omega) _).grown hgrow4 (by simp; omega) (fun r hr => (own_blockG HOW.out r hr).1)
        obtain ⟨A4, c4, hv4, hS4, _, _, _, _⟩ := SlRows_own (f := inV) (n := 1) (L := [1, 3]) (fun _ => rfl) hown4
        replace hv4 : v4 = .slice A4 2 c4 := hv4
        subst hv4
        replace HOW : Hid (OwR (w.heap.size + 2) (.slice A4 2 c4) 2 (rowsV inV [1, 3]) x4) := Lib.hid hown4
        replace GB := Lib.hid (GB.out.belowN hN4 (by omega))
        replace RB := Lib.hid (RB.out.belowN hN4 (by omega))
        have hB4 : Below w.heap.size w x4 := hB3.trans (hN4.mono (by omega))
        have zu4 := hB4.size
        have zz4 := RB.out.lt
        clear hown4 hgrow4 hblk4 hN4 hS4 hB3 zu3 GB_3_0 GB_3_1 lGB_3 nGB_3 mGB_3 RB_3_0 RB_3_1 RB_3_2 RB_3_3 RB_3_4 RB_3_5 RB_3_6 RB_3_7 RB_3_8 lRB_3 nRB_3 mRB_3
        obtain ⟨GB_4_0, GB_4_1⟩ := b2 GB.out
        have lGB_4 := GB.out.lt
        have nGB_4 : x4.heap.size ≠ w.heap.size := by omega
        have mGB_4 : w.heap.size ≠ x4.heap.size := by omega
        obtain ⟨RB_4_0, RB_4_1, RB_4_2, RB_4_3, RB_4_4, RB_4_5, RB_4_6, RB_4_7, RB_4_8⟩ := b9 RB.out
        have lRB_4 := RB.out.lt
        have nRB_4 : x4.heap.size ≠ w.heap.size + 1 := by omega
        have mRB_4 : w.heap.size + 1 ≠ x4.heap.size := by omega
        go_upto_region 8 with (fail)
        have HS : Hid (∀ y, Below x4.heap.size x4 y → y.cell? ⟨w.heap.size, 0, none⟩ = some (.int .i64 o) ∧ y.cell? ⟨w.heap.size, 1, none⟩ = some (.int .i64 h) ∧ y.cell? ⟨w.heap.size + 1, 0, none⟩ = some (.slice AT tn tc) ∧ y.cell? ⟨w.heap.size + 1, 1, none⟩ = some (.int .i64 r.a) ∧ y.cell? ⟨w.heap.size + 1, 2, none⟩ = some (.int .i64 r.b) ∧ y.cell? ⟨w.heap.size + 1, 3, none⟩ = some (.int .i64 r.nc) ∧ y.cell? ⟨w.heap.size + 1, 4, none⟩ = some (.int .i64 r.dn) ∧ y.cell? ⟨w.heap.size + 1, 5, none⟩ = some (.int .i64 r.br) ∧ y.cell? ⟨w.heap.size + 1, 6, none⟩ = some (.int .i64 r.em) ∧ y.cell? ⟨w.heap.size + 1, 7, none⟩ = some (.int .i64 r.pa) ∧ y.cell? ⟨w.heap.size + 1, 8, none⟩ = some (.int .i64 r.sc)) := Lib.hid fun y hy => ⟨(hy.cell (p := ⟨w.heap.size, 0, none⟩) lGB_4).trans GB_4_0, (hy.cell (p := ⟨w.heap.size, 1, none⟩) lGB_4).trans GB_4_1, (hy.cell (p := ⟨w.heap.size + 1, 0, none⟩) lRB_4).trans RB_4_0, (hy.cell (p := ⟨w.heap.size + 1, 1, none⟩) lRB_4).trans RB_4_1, (hy.cell (p := ⟨w.heap.size + 1, 2, none⟩) lRB_4).trans RB_4_2, (hy.cell (p := ⟨w.heap.size + 1, 3, none⟩) lRB_4).trans RB_4_3, (hy.cell (p := ⟨w.heap.size + 1, 4, none⟩) lRB_4).trans RB_4_4, (hy.cell (p := ⟨w.heap.size + 1, 5, none⟩) lRB_4).trans RB_4_5, (hy.cell (p := ⟨w.heap.size + 1, 6, none⟩) lRB_4).trans RB_4_6, (hy.cell (p := ⟨w.heap.size + 1, 7, none⟩) lRB_4).trans RB_4_7, (hy.cell (p := ⟨w.heap.size + 1, 8, none⟩) lRB_4).trans RB_4_8⟩
        refine wp_region_held_drew (S := (fun w' => w'.cell? ⟨w.heap.size, 0, none⟩ = some (.int .i64 o) ∧ w'.cell? ⟨w.heap.size, 1, none⟩ = some (.int .i64 h) ∧ w'.cell? ⟨w.heap.size + 1, 0, none⟩ = some (.slice AT tn tc) ∧ w'.cell? ⟨w.heap.size + 1, 1, none⟩ = some (.int .i64 r.a) ∧ w'.cell? ⟨w.heap.size + 1, 2, none⟩ = some (.int .i64 r.b) ∧ w'.cell? ⟨w.heap.size + 1, 3, none⟩ = some (.int .i64 r.nc) ∧ w'.cell? ⟨w.heap.size + 1, 4, none⟩ = some (.int .i64 r.dn) ∧ w'.cell? ⟨w.heap.size + 1, 5, none⟩ = some (.int .i64 r.br) ∧ w'.cell? ⟨w.heap.size + 1, 6, none⟩ = some (.int .i64 r.em) ∧ w'.cell? ⟨w.heap.size + 1, 7, none⟩ = some (.int .i64 r.pa) ∧ w'.cell? ⟨w.heap.size + 1, 8, none⟩ = some (.int .i64 r.sc))) (by kernel_rfl) (HS.out _ (Below.refl _ _).drew) (fun hHeld => ?_)
        have hT0 : Below x4.heap.size x4 x4.drew := (Below.refl _ _).drew
        generalize hdr : x4.drew = y4v0 at *
        clear hdr
        refine tkH 0 ⟨some 55, _, _, _, _, _⟩ ?_ rfl ?_ (by assumption) ?_
        rotate_left
        · (intro w hSw; (try dsimp only at hSw); go_simp; all_goals with_reducible rfl)
        try simp only [Act.put, sA, sB, sC]
        refine tkH 1 ⟨some 56, _, _, _, _, _⟩ ?_ rfl ?_ (by assumption) ?_
        rotate_left
        · (intro w hSw; (try dsimp only at hSw); go_simp; all_goals with_reducible rfl)
        try simp only [Act.put, sA, sB, sC]
        refine tkH 2 ⟨some 57, _, _, _, _, _⟩ ?_ rfl ?_ (by assumption) ?_
        rotate_left
        · (intro w hSw; (try dsimp only at hSw); go_simp; all_goals with_reducible rfl)
        try simp only [Act.put, sA, sB, sC]
        refine tkH 3 ⟨some 58, _, _, _, _, _⟩ ?_ rfl ?_ (by assumption) ?_
        rotate_left
        · (intro w hSw; (try dsimp only at hSw); go_simp; (try simp only [e1, e2]); all_goals with_reducible rfl)
        try simp only [Act.put, sA, sB, sC]
        refine tkH 6 ⟨some 61, _, _, _, _, _⟩ ?_ rfl ?_ (by assumption) ?_
        rotate_left
        · (intro w hSw; (try dsimp only at hSw); go_simp; all_goals with_reducible rfl)
        try simp only [Act.put, sA, sB, sC]
        refine tkH 7 ⟨some 62, _, _, _, _, _⟩ ?_ rfl ?_ (by assumption) ?_
        rotate_left
        · (intro w hSw; (try dsimp only at hSw); go_simp; all_goals with_reducible rfl)
        try simp only [Act.put, sA, sB, sC]
        refine wpAnyH_ready (rs := [4]) (by kernel_rfl) (by simp) ?_
        refine AllReadyH.cons rfl (fun K hK => ?_) (AllReadyH.nil)
        go_simp
        refine (denB o h s hi dx dv _ k1 k2 k3 k4 k7 h0 h9 hdx hdv).mono ?_
        rintro e y4v1 ⟨rfl, hby4v0⟩
        have hT1 : Below x4.heap.size x4 y4v1 := hT0.trans (hby4v0.mono hT0.size)
        clear hby4v0
        go_wp2_with fail
        refine hK.out _ _ (HS.out _ hT1) (fun hHeld => ?_)
        clear hK K
        try simp only [Act.put, sA, sB, sC]
        refine tkH 5 ⟨some 60, _, _, _, _, _⟩ ?_ rfl ?_ (by assumption) ?_
        rotate_left
        · (intro w hSw; (try dsimp only at hSw); go_simp; all_goals with_reducible rfl)
        try simp only [Act.put, sA, sB, sC]
        refine tkH 8 ⟨some 63, _, _, _, _, _⟩ ?_ rfl ?_ (by assumption) ?_
        rotate_left
        · (intro w hSw; (try dsimp only at hSw); go_simp; all_goals with_reducible rfl)
        try simp only [Act.put, sA, sB, sC]
        refine wpAnyH_done (by kernel_rfl) ?_ _
        have hc5 : Below x4.heap.size x4 y4v1 := hT1
        have hB5 : Below w.heap.size w y4v1 := hB4.trans (hc5.mono hB4.size)
        have zu5 := hB5.size
        replace HOW := Lib.hid (HOW.out.below hc5)
        replace GB := Lib.hid (GB.out.below hc5)
        replace RB := Lib.hid (RB.out.below hc5)
        clear GB_4_0 GB_4_1 lGB_4 nGB_4 mGB_4 RB_4_0 RB_4_1 RB_4_2 RB_4_3 RB_4_4 RB_4_5 RB_4_6 RB_4_7 RB_4_8 lRB_4 nRB_4 mRB_4 zz4
        clear HS hHeld hT0 hT1 hB4 zu4
        obtain ⟨GB_5_0, GB_5_1⟩ := b2 GB.out
        have lGB_5 := GB.out.lt
        have nGB_5 : y4v1.heap.size ≠ w.heap.size := by omega
        have mGB_5 : w.heap.size ≠ y4v1.heap.size := by omega
        obtain ⟨RB_5_0, RB_5_1, RB_5_2, RB_5_3, RB_5_4, RB_5_5, RB_5_6, RB_5_7, RB_5_8⟩ := b9 RB.out
        have lRB_5 := RB.out.lt
        have nRB_5 : y4v1.heap.size ≠ w.heap.size + 1 := by omega
        have mRB_5 : w.heap.size + 1 ≠ y4v1.heap.size := by omega
        by_cases g3 : r.dn < dv
        · have G3 := Lib.hid g3
          go_wp2_with (at_builtin; refine wpList_append_slG rfl _ _ 42 rfl (w.heap.size + 2) 3 i0 (.int .i64 0) 1 8 Try.underlying42 HI.out HZ0.out HZ1.out HZ2.out rfl (by decide) (.slice A4 2 c4) 2 (rowsV inV [1, 3]) rfl (own_belowG HOW.out ((Below.refl _ _).alloc (Nat.le_refl _) _) (Nat.le_refl _)) (some ⟨y4v1.heap.size, 0, none⟩) 1 1 [.int .i64 4] rfl (fun h => by cases h) rfl (fun ad had j v hj => by cases had; rw [addNR, Nat.zero_add]; exact (BlkF.made (B := 0) y4v1 [.int .i64 4] 3 (Nat.zero_le _)).at' j v hj) (by intro v hv; simp at hv; subst hv; rfl) (by unfold maxLen; omega) (by omega) (by simp; omega) ?_)
          intro v6 x6 hown6 hgrow6 hblk6
          have hN6 : Below (w.heap.size + 2) y4v1 x6 := ((Below.refl (w.heap.size + 2) y4v1).alloc (by omega) _).grown hgrow6 (by simp; omega) (fun r hr => (own_blockG HOW.out r hr).1)
          obtain ⟨A6, c6, hv6, hS6, _, _, _, _⟩ := SlRows_own (f := inV) (n := 1) (L := [1, 3, 4]) (fun _ => rfl) hown6
          replace hv6 : v6 = .slice A6 3 c6 := hv6
          subst hv6
          replace HOW : Hid (OwR (w.heap.size + 2) (.slice A6 3 c6) 3 (rowsV inV [1, 3, 4]) x6) := Lib.hid hown6
          replace GB := Lib.hid (GB.out.belowN hN6 (by omega))
          replace RB := Lib.hid (RB.out.belowN hN6 (by omega))
          have hB6 : Below w.heap.size w x6 := hB5.trans (hN6.mono (by omega))
          have zu6 := hB6.size
          have zz6 := RB.out.lt
          clear hown6 hgrow6 hblk6 hN6 hS6 hB5 zu5 GB_5_0 GB_5_1 lGB_5 nGB_5 mGB_5 RB_5_0 RB_5_1 RB_5_2 RB_5_3 RB_5_4 RB_5_5 RB_5_6 RB_5_7 RB_5_8 lRB_5 nRB_5 mRB_5
          obtain ⟨GB_6_0, GB_6_1⟩ := b2 GB.out
          have lGB_6 := GB.out.lt
          have nGB_6 : x6.heap.size ≠ w.heap.size := by omega
          have mGB_6 : w.heap.size ≠ x6.heap.size := by omega
          obtain ⟨RB_6_0, RB_6_1, RB_6_2, RB_6_3, RB_6_4, RB_6_5, RB_6_6, RB_6_7, RB_6_8⟩ := b9 RB.out
          have lRB_6 := RB.out.lt
          have nRB_6 : x6.heap.size ≠ w.heap.size + 1 := by omega
          have mRB_6 : w.heap.size + 1 ≠ x6.heap.size := by omega
          go_wp2
          go_ret
          have hQ : Hid (L = [1, 3, 4]) := Lib.hid (by rw [← hL.out]; rw [hLL.out, if_pos (show o * lo < 1000 * r.a by have := G0.out; omega), if_neg (show ¬ 1000 * r.b < o * hi by have := G1.out; omega), if_pos (show r.nc < nv by have := G2.out; omega), if_pos (show r.dn < dv by have := G3.out; omega)]; rfl)
          obtain rfl := hQ.out
          obtain ⟨Az, cz, hvz, hSz, hgz, _, _, _⟩ := SlRows_own (f := inV) (n := 1) (L := [1, 3, 4]) (fun _ => rfl) HOW.out
          injection hvz with hq _ _
          rw [← hq] at hSz hgz
          first | exact ⟨A6, ⟨c6, rfl⟩, hSz, (fun ad h => Nat.le_trans (by omega) (hgz ad h)), hB6⟩ | exact ⟨A6, c6, rfl, hSz, (fun ad h => Nat.le_trans (by omega) (hgz ad h)), hB6⟩
        · have G3 := Lib.hid g3
          go_wp2
          go_ret
          have hQ : Hid (L = [1, 3]) := Lib.hid (by rw [← hL.out]; rw [hLL.out, if_pos (show o * lo < 1000 * r.a by have := G0.out; omega), if_neg (show ¬ 1000 * r.b < o * hi by have := G1.out; omega), if_pos (show r.nc < nv by have := G2.out; omega), if_neg (show ¬ r.dn < dv by have := G3.out; omega)]; rfl)
          obtain rfl := hQ.out
          obtain ⟨Az, cz, hvz, hSz, hgz, _, _, _⟩ := SlRows_own (f := inV) (n := 1) (L := [1, 3]) (fun _ => rfl) HOW.out
          injection hvz with hq _ _
          rw [← hq] at hSz hgz
          first | exact ⟨A4, ⟨c4, rfl⟩, hSz, (fun ad h => Nat.le_trans (by omega) (hgz ad h)), hB5⟩ | exact ⟨A4, c4, rfl, hSz, (fun ad h => Nat.le_trans (by omega) (hgz ad h)), hB5⟩
      · have G2 := Lib.hid g2
        go_upto_region 8 with (fail)
        have HS : Hid (∀ y, Below y2v1.heap.size y2v1 y → y.cell? ⟨w.heap.size, 0, none⟩ = some (.int .i64 o) ∧ y.cell? ⟨w.heap.size, 1, none⟩ = some (.int .i64 h) ∧ y.cell? ⟨w.heap.size + 1, 0, none⟩ = some (.slice AT tn tc) ∧ y.cell? ⟨w.heap.size + 1, 1, none⟩ = some (.int .i64 r.a) ∧ y.cell? ⟨w.heap.size + 1, 2, none⟩ = some (.int .i64 r.b) ∧ y.cell? ⟨w.heap.size + 1, 3, none⟩ = some (.int .i64 r.nc) ∧ y.cell? ⟨w.heap.size + 1, 4, none⟩ = some (.int .i64 r.dn) ∧ y.cell? ⟨w.heap.size + 1, 5, none⟩ = some (.int .i64 r.br) ∧ y.cell? ⟨w.heap.size + 1, 6, none⟩ = some (.int .i64 r.em) ∧ y.cell? ⟨w.heap.size + 1, 7, none⟩ = some (.int .i64 r.pa) ∧ y.cell? ⟨w.heap.size + 1, 8, none⟩ = some (.int .i64 r.sc)) := Lib.hid fun y hy => ⟨(hy.cell (p := ⟨w.heap.size, 0, none⟩) lGB_3).trans GB_3_0, (hy.cell (p := ⟨w.heap.size, 1, none⟩) lGB_3).trans GB_3_1, (hy.cell (p := ⟨w.heap.size + 1, 0, none⟩) lRB_3).trans RB_3_0, (hy.cell (p := ⟨w.heap.size + 1, 1, none⟩) lRB_3).trans RB_3_1, (hy.cell (p := ⟨w.heap.size + 1, 2, none⟩) lRB_3).trans RB_3_2, (hy.cell (p := ⟨w.heap.size + 1, 3, none⟩) lRB_3).trans RB_3_3, (hy.cell (p := ⟨w.heap.size + 1, 4, none⟩) lRB_3).trans RB_3_4, (hy.cell (p := ⟨w.heap.size + 1, 5, none⟩) lRB_3).trans RB_3_5, (hy.cell (p := ⟨w.heap.size + 1, 6, none⟩) lRB_3).trans RB_3_6, (hy.cell (p := ⟨w.heap.size + 1, 7, none⟩) lRB_3).trans RB_3_7, (hy.cell (p := ⟨w.heap.size + 1, 8, none⟩) lRB_3).trans RB_3_8⟩
        refine wp_region_held_drew (S := (fun w' => w'.cell? ⟨w.heap.size, 0, none⟩ = some (.int .i64 o) ∧ w'.cell? ⟨w.heap.size, 1, none⟩ = some (.int .i64 h) ∧ w'.cell? ⟨w.heap.size + 1, 0, none⟩ = some (.slice AT tn tc) ∧ w'.cell? ⟨w.heap.size + 1, 1, none⟩ = some (.int .i64 r.a) ∧ w'.cell? ⟨w.heap.size + 1, 2, none⟩ = some (.int .i64 r.b) ∧ w'.cell? ⟨w.heap.size + 1, 3, none⟩ = some (.int .i64 r.nc) ∧ w'.cell? ⟨w.heap.size + 1, 4, none⟩ = some (.int .i64 r.dn) ∧ w'.cell? ⟨w.heap.size + 1, 5, none⟩ = some (.int .i64 r.br) ∧ w'.cell? ⟨w.heap.size + 1, 6, none⟩ = some (.int .i64 r.em) ∧ w'.cell? ⟨w.heap.size + 1, 7, none⟩ = some (.int .i64 r.pa) ∧ w'.cell? ⟨w.heap.size + 1, 8, none⟩ = some (.int .i64 r.sc))) (by kernel_rfl) (HS.out _ (Below.refl _ _).drew) (fun hHeld => ?_)
        have hT0 : Below y2v1.heap.size y2v1 y2v1.drew := (Below.refl _ _).drew
        generalize hdr : y2v1.drew = y3v0 at *
        clear hdr
        refine tkH 0 ⟨some 55, _, _, _, _, _⟩ ?_ rfl ?_ (by assumption) ?_
        rotate_left
        · (intro w hSw; (try dsimp only at hSw); go_simp; all_goals with_reducible rfl)
        try simp only [Act.put, sA, sB, sC]
        refine tkH 1 ⟨some 56, _, _, _, _, _⟩ ?_ rfl ?_ (by assumption) ?_
        rotate_left
        · (intro w hSw; (try dsimp only at hSw); go_simp; all_goals with_reducible rfl)
        try simp only [Act.put, sA, sB, sC]
        refine tkH 2 ⟨some 57, _, _, _, _, _⟩ ?_ rfl ?_ (by assumption) ?_
        rotate_left
        · (intro w hSw; (try dsimp only at hSw); go_simp; all_goals with_reducible rfl)
        try simp only [Act.put, sA, sB, sC]
        refine tkH 3 ⟨some 58, _, _, _, _, _⟩ ?_ rfl ?_ (by assumption) ?_
        rotate_left
        · (intro w hSw; (try dsimp only at hSw); go_simp; (try simp only [e1, e2]); all_goals with_reducible rfl)
        try simp only [Act.put, sA, sB, sC]
        refine tkH 6 ⟨some 61, _, _, _, _, _⟩ ?_ rfl ?_ (by assumption) ?_
        rotate_left
        · (intro w hSw; (try dsimp only at hSw); go_simp; all_goals with_reducible rfl)
        try simp only [Act.put, sA, sB, sC]
        refine tkH 7 ⟨some 62, _, _, _, _, _⟩ ?_ rfl ?_ (by assumption) ?_
        rotate_left
        · (intro w hSw; (try dsimp only at hSw); go_simp; all_goals with_reducible rfl)
        try simp only [Act.put, sA, sB, sC]
        refine wpAnyH_ready (rs := [4]) (by kernel_rfl) (by simp) ?_
        refine AllReadyH.cons rfl (fun K hK => ?_) (AllReadyH.nil)
        go_simp
        refine (denB o h s hi dx dv _ k1 k2 k3 k4 k7 h0 h9 hdx hdv).mono ?_
        rintro e y3v1 ⟨rfl, hby3v0⟩
        have hT1 : Below y2v1.heap.size y2v1 y3v1 := hT0.trans (hby3v0.mono hT0.size)
        clear hby3v0
        go_wp2_with fail
        refine hK.out _ _ (HS.out _ hT1) (fun hHeld => ?_)
        clear hK K
        try simp only [Act.put, sA, sB, sC]
        refine tkH 5 ⟨some 60, _, _, _, _, _⟩ ?_ rfl ?_ (by assumption) ?_
        rotate_left
        · (intro w hSw; (try dsimp only at hSw); go_simp; all_goals with_reducible rfl)
        try simp only [Act.put, sA, sB, sC]
        refine tkH 8 ⟨some 63, _, _, _, _, _⟩ ?_ rfl ?_ (by assumption) ?_
        rotate_left
        · (intro w hSw; (try dsimp only at hSw); go_simp; all_goals with_reducible rfl)
        try simp only [Act.put, sA, sB, sC]
        refine wpAnyH_done (by kernel_rfl) ?_ _
        have hc4 : Below y2v1.heap.size y2v1 y3v1 := hT1
        have hB4 : Below w.heap.size w y3v1 := hB3.trans (hc4.mono hB3.size)
        have zu4 := hB4.size
        replace HOW := Lib.hid (HOW.out.below hc4)
        replace GB := Lib.hid (GB.out.below hc4)
        replace RB := Lib.hid (RB.out.below hc4)
        clear GB_3_0 GB_3_1 lGB_3 nGB_3 mGB_3 RB_3_0 RB_3_1 RB_3_2 RB_3_3 RB_3_4 RB_3_5 RB_3_6 RB_3_7 RB_3_8 lRB_3 nRB_3 mRB_3
        clear HS hHeld hT0 hT1 hB3 zu3 hc3
        obtain ⟨GB_4_0, GB_4_1⟩ := b2 GB.out
        have lGB_4 := GB.out.lt
        have nGB_4 : y3v1.heap.size ≠ w.heap.size := by omega
        have mGB_4 : w.heap.size ≠ y3v1.heap.size := by omega
        obtain ⟨RB_4_0, RB_4_1, RB_4_2, RB_4_3, RB_4_4, RB_4_5, RB_4_6, RB_4_7, RB_4_8⟩ := b9 RB.out
        have lRB_4 := RB.out.lt
        have nRB_4 : y3v1.heap.size ≠ w.heap.size + 1 := by omega
        have mRB_4 : w.heap.size + 1 ≠ y3v1.heap.size := by omega
        by_cases g3 : r.dn < dv
        · have G3 := Lib.hid g3
          go_wp2_with (at_builtin; refine wpList_append_slG rfl _ _ 42 rfl (w.heap.size + 2) 3 i0 (.int .i64 0) 1 8 Try.underlying42 HI.out HZ0.out HZ1.out HZ2.out rfl (by decide) (.slice A2 1 c2) 1 (rowsV inV [1]) rfl (own_belowG HOW.out ((Below.refl _ _).alloc (Nat.le_refl _) _) (Nat.le_refl _)) (some ⟨y3v1.heap.size, 0, none⟩) 1 1 [.int .i64 4] rfl (fun h => by cases h) rfl (fun ad had j v hj => by cases had; rw [addNR, Nat.zero_add]; exact (BlkF.made (B := 0) y3v1 [.int .i64 4] 3 (Nat.zero_le _)).at' j v hj) (by intro v hv; simp at hv; subst hv; rfl) (by unfold maxLen; omega) (by omega) (by simp; omega) ?_)
          intro v5 x5 hown5 hgrow5 hblk5
          have hN5 : Below (w.heap.size + 2) y3v1 x5 := ((Below.refl (w.heap.size + 2) y3v1).alloc (by omega) _).grown hgrow5 (by simp; omega) (fun r hr => (own_blockG HOW.out r hr).1)
          obtain ⟨A5, c5, hv5, hS5, _, _, _, _⟩ := SlRows_own (f := inV) (n := 1) (L := [1, 4]) (fun _ => rfl) hown5
          replace hv5 : v5 = .slice A5 2 c5 := hv5
          subst hv5
          replace HOW : Hid (OwR (w.heap.size + 2) (.slice A5 2 c5) 2 (rowsV inV [1, 4]) x5) := Lib.hid hown5
          replace GB := Lib.hid (GB.out.belowN hN5 (by omega))
          replace RB := Lib.hid (RB.out.belowN hN5 (by omega))
          have hB5 : Below w.heap.size w x5 := hB4.trans (hN5.mono (by omega))
          have zu5 := hB5.size
          have zz5 := RB.out.lt
          clear hown5 hgrow5 hblk5 hN5 hS5 hB4 zu4 GB_4_0 GB_4_1 lGB_4 nGB_4 mGB_4 RB_4_0 RB_4_1 RB_4_2 RB_4_3 RB_4_4 RB_4_5 RB_4_6 RB_4_7 RB_4_8 lRB_4 nRB_4 mRB_4
          obtain ⟨GB_5_0, GB_5_1⟩ := b2 GB.out
          have lGB_5 := GB.out.lt
          have nGB_5 : x5.heap.size ≠ w.heap.size := by omega
          have mGB_5 : w.heap.size ≠ x5.heap.size := by omega
          obtain ⟨RB_5_0, RB_5_1, RB_5_2, RB_5_3, RB_5_4, RB_5_5, RB_5_6, RB_5_7, RB_5_8⟩ := b9 RB.out
          have lRB_5 := RB.out.lt
          have nRB_5 : x5.heap.size ≠ w.heap.size + 1 := by omega
          have mRB_5 : w.heap.size + 1 ≠ x5.heap.size := by omega
          go_wp2
          go_ret
          have hQ : Hid (L = [1, 4]) := Lib.hid (by rw [← hL.out]; rw [hLL.out, if_pos (show o * lo < 1000 * r.a by have := G0.out; omega), if_neg (show ¬ 1000 * r.b < o * hi by have := G1.out; omega), if_neg (show ¬ r.nc < nv by have := G2.out; omega), if_pos (show r.dn < dv by have := G3.out; omega)]; rfl)
          obtain rfl := hQ.out
          obtain ⟨Az, cz, hvz, hSz, hgz, _, _, _⟩ := SlRows_own (f := inV) (n := 1) (L := [1, 4]) (fun _ => rfl) HOW.out
          injection hvz with hq _ _
          rw [← hq] at hSz hgz
          first | exact ⟨A5, ⟨c5, rfl⟩, hSz, (fun ad h => Nat.le_trans (by omega) (hgz ad h)), hB5⟩ | exact ⟨A5, c5, rfl, hSz, (fun ad h => Nat.le_trans (by omega) (hgz ad h)), hB5⟩
        · have G3 := Lib.hid g3
          go_wp2
          go_ret
          have hQ : Hid (L = [1]) := Lib.hid (by rw [← hL.out]; rw [hLL.out, if_pos (show o * lo < 1000 * r.a by have := G0.out; omega), if_neg (show ¬ 1000 * r.b < o * hi by have := G1.out; omega), if_neg (show ¬ r.nc < nv by have := G2.out; omega), if_neg (show ¬ r.dn < dv by have := G3.out; omega)]; rfl)
          obtain rfl := hQ.out
          obtain ⟨Az, cz, hvz, hSz, hgz, _, _, _⟩ := SlRows_own (f := inV) (n := 1) (L := [1]) (fun _ => rfl) HOW.out
          injection hvz with hq _ _
          rw [← hq] at hSz hgz
          first | exact ⟨A2, ⟨c2, rfl⟩, hSz, (fun ad h => Nat.le_trans (by omega) (hgz ad h)), hB4⟩ | exact ⟨A2, c2, rfl, hSz, (fun ad h => Nat.le_trans (by omega) (hgz ad h)), hB4⟩
  · have G0 := Lib.hid g0
    by_cases g1 : 1000 * r.b < o * hi
    · have G1 := Lib.hid g1
      go_wp2_with (at_builtin; refine wpList_append_slG rfl _ _ 42 rfl (w.heap.size + 2) 3 i0 (.int .i64 0) 1 8 Try.underlying42 HI.out HZ0.out HZ1.out HZ2.out rfl (by decide) (.slice none 0 0) 0 [] rfl (own_belowG HOW.out ((Below.refl _ _).alloc (Nat.le_refl _) _) (Nat.le_refl _)) (some ⟨x1.heap.size, 0, none⟩) 1 1 [.int .i64 2] rfl (fun h => by cases h) rfl (fun ad had j v hj => by cases had; rw [addNR, Nat.zero_add]; exact (BlkF.made (B := 0) x1 [.int .i64 2] 3 (Nat.zero_le _)).at' j v hj) (by intro v hv; simp at hv; subst hv; rfl) (by unfold maxLen; omega) (by omega) (by simp; omega) ?_)
      intro v2 x2 hown2 hgrow2 hblk2
      have hN2 : Below (w.heap.size + 2) x1 x2 := ((Below.refl (w.heap.size + 2) x1).alloc (by omega) _).grown hgrow2 (by simp; omega) (fun r hr => (own_blockG HOW.out r hr).1)
      obtain ⟨A2, c2, hv2, hS2, _, _, _, _⟩ := SlRows_own (f := inV) (n := 1) (L := [2]) (fun _ => rfl) hown2
      replace hv2 : v2 = .slice A2 1 c2 := hv2
      subst hv2
      replace HOW : Hid (OwR (w.heap.size + 2) (.slice A2 1 c2) 1 (rowsV inV [2]) x2) := Lib.hid hown2
      replace GB := Lib.hid (GB.out.belowN hN2 (by omega))
      replace RB := Lib.hid (RB.out.belowN hN2 (by omega))
      have hB2 : Below w.heap.size w x2 := hB1.trans (hN2.mono (by omega))
      have zu2 := hB2.size
      have zz2 := RB.out.lt
      clear hown2 hgrow2 hblk2 hN2 hS2 hB1 zu1 GB_1_0 GB_1_1 lGB_1 nGB_1 mGB_1 RB_1_0 RB_1_1 RB_1_2 RB_1_3 RB_1_4 RB_1_5 RB_1_6 RB_1_7 RB_1_8 lRB_1 nRB_1 mRB_1 zz1
      obtain ⟨GB_2_0, GB_2_1⟩ := b2 GB.out
      have lGB_2 := GB.out.lt
      have nGB_2 : x2.heap.size ≠ w.heap.size := by omega
      have mGB_2 : w.heap.size ≠ x2.heap.size := by omega
      obtain ⟨RB_2_0, RB_2_1, RB_2_2, RB_2_3, RB_2_4, RB_2_5, RB_2_6, RB_2_7, RB_2_8⟩ := b9 RB.out
      have lRB_2 := RB.out.lt
      have nRB_2 : x2.heap.size ≠ w.heap.size + 1 := by omega
      have mRB_2 : w.heap.size + 1 ≠ x2.heap.size := by omega
      go_upto_region 6 with (fail)
      have HS : Hid (∀ y, Below x2.heap.size x2 y → y.cell? ⟨w.heap.size, 0, none⟩ = some (.int .i64 o) ∧ y.cell? ⟨w.heap.size, 1, none⟩ = some (.int .i64 h) ∧ y.cell? ⟨w.heap.size + 1, 0, none⟩ = some (.slice AT tn tc) ∧ y.cell? ⟨w.heap.size + 1, 1, none⟩ = some (.int .i64 r.a) ∧ y.cell? ⟨w.heap.size + 1, 2, none⟩ = some (.int .i64 r.b) ∧ y.cell? ⟨w.heap.size + 1, 3, none⟩ = some (.int .i64 r.nc) ∧ y.cell? ⟨w.heap.size + 1, 4, none⟩ = some (.int .i64 r.dn) ∧ y.cell? ⟨w.heap.size + 1, 5, none⟩ = some (.int .i64 r.br) ∧ y.cell? ⟨w.heap.size + 1, 6, none⟩ = some (.int .i64 r.em) ∧ y.cell? ⟨w.heap.size + 1, 7, none⟩ = some (.int .i64 r.pa) ∧ y.cell? ⟨w.heap.size + 1, 8, none⟩ = some (.int .i64 r.sc)) := Lib.hid fun y hy => ⟨(hy.cell (p := ⟨w.heap.size, 0, none⟩) lGB_2).trans GB_2_0, (hy.cell (p := ⟨w.heap.size, 1, none⟩) lGB_2).trans GB_2_1, (hy.cell (p := ⟨w.heap.size + 1, 0, none⟩) lRB_2).trans RB_2_0, (hy.cell (p := ⟨w.heap.size + 1, 1, none⟩) lRB_2).trans RB_2_1, (hy.cell (p := ⟨w.heap.size + 1, 2, none⟩) lRB_2).trans RB_2_2, (hy.cell (p := ⟨w.heap.size + 1, 3, none⟩) lRB_2).trans RB_2_3, (hy.cell (p := ⟨w.heap.size + 1, 4, none⟩) lRB_2).trans RB_2_4, (hy.cell (p := ⟨w.heap.size + 1, 5, none⟩) lRB_2).trans RB_2_5, (hy.cell (p := ⟨w.heap.size + 1, 6, none⟩) lRB_2).trans RB_2_6, (hy.cell (p := ⟨w.heap.size + 1, 7, none⟩) lRB_2).trans RB_2_7, (hy.cell (p := ⟨w.heap.size + 1, 8, none⟩) lRB_2).trans RB_2_8⟩
      refine wp_region_held_drew (S := (fun w' => w'.cell? ⟨w.heap.size, 0, none⟩ = some (.int .i64 o) ∧ w'.cell? ⟨w.heap.size, 1, none⟩ = some (.int .i64 h) ∧ w'.cell? ⟨w.heap.size + 1, 0, none⟩ = some (.slice AT tn tc) ∧ w'.cell? ⟨w.heap.size + 1, 1, none⟩ = some (.int .i64 r.a) ∧ w'.cell? ⟨w.heap.size + 1, 2, none⟩ = some (.int .i64 r.b) ∧ w'.cell? ⟨w.heap.size + 1, 3, none⟩ = some (.int .i64 r.nc) ∧ w'.cell? ⟨w.heap.size + 1, 4, none⟩ = some (.int .i64 r.dn) ∧ w'.cell? ⟨w.heap.size + 1, 5, none⟩ = some (.int .i64 r.br) ∧ w'.cell? ⟨w.heap.size + 1, 6, none⟩ = some (.int .i64 r.em) ∧ w'.cell? ⟨w.heap.size + 1, 7, none⟩ = some (.int .i64 r.pa) ∧ w'.cell? ⟨w.heap.size + 1, 8, none⟩ = some (.int .i64 r.sc))) (by kernel_rfl) (HS.out _ (Below.refl _ _).drew) (fun hHeld => ?_)
      have hT0 : Below x2.heap.size x2 x2.drew := (Below.refl _ _).drew
      generalize hdr : x2.drew = y2v0 at *
      clear hdr
      refine tkH 0 ⟨some 40, _, _, _, _, _⟩ ?_ rfl ?_ (by assumption) ?_
      rotate_left
      · (intro w hSw; (try dsimp only at hSw); go_simp; all_goals with_reducible rfl)
      try simp only [Act.put, sA, sB, sC]
      refine tkH 1 ⟨some 41, _, _, _, _, _⟩ ?_ rfl ?_ (by assumption) ?_
      rotate_left
      · (intro w hSw; (try dsimp only at hSw); go_simp; all_goals with_reducible rfl)
      try simp only [Act.put, sA, sB, sC]
      refine tkH 2 ⟨some 42, _, _, _, _, _⟩ ?_ rfl ?_ (by assumption) ?_
      rotate_left
      · (intro w hSw; (try dsimp only at hSw); go_simp; all_goals with_reducible rfl)
      try simp only [Act.put, sA, sB, sC]
      refine tkH 3 ⟨some 43, _, _, _, _, _⟩ ?_ rfl ?_ (by assumption) ?_
      rotate_left
      · (intro w hSw; (try dsimp only at hSw); go_simp; all_goals with_reducible rfl)
      try simp only [Act.put, sA, sB, sC]
      refine tkH 4 ⟨some 44, _, _, _, _, _⟩ ?_ rfl ?_ (by assumption) ?_
      rotate_left
      · (intro w hSw; (try dsimp only at hSw); go_simp; (try simp only [e1, e2]); all_goals with_reducible rfl)
      try simp only [Act.put, sA, sB, sC]
      refine tkH 5 ⟨some 45, _, _, _, _, _⟩ ?_ rfl ?_ (by assumption) ?_
      rotate_left
      · (intro w hSw; (try dsimp only at hSw); go_simp; all_goals with_reducible rfl)
      try simp only [Act.put, sA, sB, sC]
      refine tkH 6 ⟨some 46, _, _, _, _, _⟩ ?_ rfl ?_ (by assumption) ?_
      rotate_left
      · (intro w hSw; (try dsimp only at hSw); go_simp; all_goals with_reducible rfl)
      try simp only [Act.put, sA, sB, sC]
      refine tkH 9 ⟨some 49, _, _, _, _, _⟩ ?_ rfl ?_ (by assumption) ?_
      rotate_left
      · (intro w hSw; (try dsimp only at hSw); go_simp; all_goals with_reducible rfl)
      try simp only [Act.put, sA, sB, sC]
      refine tkH 10 ⟨some 50, _, _, _, _, _⟩ ?_ rfl ?_ (by assumption) ?_
      rotate_left
      · (intro w hSw; (try dsimp only at hSw); go_simp; all_goals with_reducible rfl)
      try simp only [Act.put, sA, sB, sC]
      refine wpAnyH_ready (rs := [7]) (by kernel_rfl) (by simp) ?_
      refine AllReadyH.cons rfl (fun K hK => ?_) (AllReadyH.nil)
      go_simp
      refine (narB o h s dd nx nv _ k1 k2 k3 k4 k7 s0 s1 d0 d1 hnx hnv).mono ?_
      rintro e y2v1 ⟨rfl, hby2v0⟩
      have hT1 : Below x2.heap.size x2 y2v1 := hT0.trans (hby2v0.mono hT0.size)
      clear hby2v0
      go_wp2_with fail
      refine hK.out _ _ (HS.out _ hT1) (fun hHeld => ?_)
      clear hK K
      try simp only [Act.put, sA, sB, sC]
      refine tkH 8 ⟨some 48, _, _, _, _, _⟩ ?_ rfl ?_ (by assumption) ?_
      rotate_left
      · (intro w hSw; (try dsimp only at hSw); go_simp; all_goals with_reducible rfl)
      try simp only [Act.put, sA, sB, sC]
      refine tkH 11 ⟨some 51, _, _, _, _, _⟩ ?_ rfl ?_ (by assumption) ?_
      rotate_left
      · (intro w hSw; (try dsimp only at hSw); go_simp; all_goals with_reducible rfl)
      try simp only [Act.put, sA, sB, sC]
      refine wpAnyH_done (by kernel_rfl) ?_ _
      have hc3 : Below x2.heap.size x2 y2v1 := hT1
      have hB3 : Below w.heap.size w y2v1 := hB2.trans (hc3.mono hB2.size)
      have zu3 := hB3.size
      replace HOW := Lib.hid (HOW.out.below hc3)
      replace GB := Lib.hid (GB.out.below hc3)
      replace RB := Lib.hid (RB.out.below hc3)
      clear GB_2_0 GB_2_1 lGB_2 nGB_2 mGB_2 RB_2_0 RB_2_1 RB_2_2 RB_2_3 RB_2_4 RB_2_5 RB_2_6 RB_2_7 RB_2_8 lRB_2 nRB_2 mRB_2 zz2
      clear HS hHeld hT0 hT1 hB2 zu2
      obtain ⟨GB_3_0, GB_3_1⟩ := b2 GB.out
      have lGB_3 := GB.out.lt
      have nGB_3 : y2v1.heap.size ≠ w.heap.size := by omega
      have mGB_3 : w.heap.size ≠ y2v1.heap.size := by omega
      obtain ⟨RB_3_0, RB_3_1, RB_3_2, RB_3_3, RB_3_4, RB_3_5, RB_3_6, RB_3_7, RB_3_8⟩ := b9 RB.out
      have lRB_3 := RB.out.lt
      have nRB_3 : y2v1.heap.size ≠ w.heap.size + 1 := by omega
      have mRB_3 : w.heap.size + 1 ≠ y2v1.heap.size := by omega
      by_cases g2 : r.nc < nv
      · have G2 := Lib.hid g2
        go_wp2_with (at_builtin; refine wpList_append_slG rfl _ _ 42 rfl (w.heap.size + 2) 3 i0 (.int .i64 0) 1 8 Try.underlying42 HI.out HZ0.out HZ1.out HZ2.out rfl (by decide) (.slice A2 1 c2) 1 (rowsV inV [2]) rfl (own_belowG HOW.out ((Below.refl _ _).alloc (Nat.le_refl _) _) (Nat.le_refl _)) (some ⟨y2v1.heap.size, 0, none⟩) 1 1 [.int .i64 3] rfl (fun h => by cases h) rfl (fun ad had j v hj => by cases had; rw [addNR, Nat.zero_add]; exact (BlkF.made (B := 0) y2v1 [.int .i64 3] 3 (Nat.zero_le _)).at' j v hj) (by intro v hv; simp at hv; subst hv; rfl) (by unfold maxLen; omega) (by omega) (by simp; omega) ?_)
        intro v4 x4 hown4 hgrow4 hblk4
        have hN4 : Below (w.heap.size + 2) y2v1 x4 := ((Below.refl (w.heap.size + 2) y2v1).alloc (by omega) _).grown hgrow4 (by simp; omega) (fun r hr => (own_blockG HOW.out r hr).1)
        obtain ⟨A4, c4, hv4, hS4, _, _, _, _⟩ := SlRows_own (f := inV) (n := 1) (L := [2, 3]) (fun _ => rfl) hown4
        replace hv4 : v4 = .slice A4 2 c4 := hv4
        subst hv4
        replace HOW : Hid (OwR (w.heap.size + 2) (.slice A4 2 c4) 2 (rowsV inV [2, 3]) x4) := Lib.hid hown4
        replace GB := Lib.hid (GB.out.belowN hN4 (by omega))
        replace RB := Lib.hid (RB.out.belowN hN4 (by omega))
        have hB4 : Below w.heap.size w x4 := hB3.trans (hN4.mono (by omega))
        have zu4 := hB4.size
        have zz4 := RB.out.lt
        clear hown4 hgrow4 hblk4 hN4 hS4 hB3 zu3 GB_3_0 GB_3_1 lGB_3 nGB_3 mGB_3 RB_3_0 RB_3_1 RB_3_2 RB_3_3 RB_3_4 RB_3_5 RB_3_6 RB_3_7 RB_3_8 lRB_3 nRB_3 mRB_3
        obtain ⟨GB_4_0, GB_4_1⟩ := b2 GB.out
        have lGB_4 := GB.out.lt
        have nGB_4 : x4.heap.size ≠ w.heap.size := by omega
        have mGB_4 : w.heap.size ≠ x4.heap.size := by omega
        obtain ⟨RB_4_0, RB_4_1, RB_4_2, RB_4_3, RB_4_4, RB_4_5, RB_4_6, RB_4_7, RB_4_8⟩ := b9 RB.out
        have lRB_4 := RB.out.lt
        have nRB_4 : x4.heap.size ≠ w.heap.size + 1 := by omega
        have mRB_4 : w.heap.size + 1 ≠ x4.heap.size := by omega
        go_upto_region 8 with (fail)
        have HS : Hid (∀ y, Below x4.heap.size x4 y → y.cell? ⟨w.heap.size, 0, none⟩ = some (.int .i64 o) ∧ y.cell? ⟨w.heap.size, 1, none⟩ = some (.int .i64 h) ∧ y.cell? ⟨w.heap.size + 1, 0, none⟩ = some (.slice AT tn tc) ∧ y.cell? ⟨w.heap.size + 1, 1, none⟩ = some (.int .i64 r.a) ∧ y.cell? ⟨w.heap.size + 1, 2, none⟩ = some (.int .i64 r.b) ∧ y.cell? ⟨w.heap.size + 1, 3, none⟩ = some (.int .i64 r.nc) ∧ y.cell? ⟨w.heap.size + 1, 4, none⟩ = some (.int .i64 r.dn) ∧ y.cell? ⟨w.heap.size + 1, 5, none⟩ = some (.int .i64 r.br) ∧ y.cell? ⟨w.heap.size + 1, 6, none⟩ = some (.int .i64 r.em) ∧ y.cell? ⟨w.heap.size + 1, 7, none⟩ = some (.int .i64 r.pa) ∧ y.cell? ⟨w.heap.size + 1, 8, none⟩ = some (.int .i64 r.sc)) := Lib.hid fun y hy => ⟨(hy.cell (p := ⟨w.heap.size, 0, none⟩) lGB_4).trans GB_4_0, (hy.cell (p := ⟨w.heap.size, 1, none⟩) lGB_4).trans GB_4_1, (hy.cell (p := ⟨w.heap.size + 1, 0, none⟩) lRB_4).trans RB_4_0, (hy.cell (p := ⟨w.heap.size + 1, 1, none⟩) lRB_4).trans RB_4_1, (hy.cell (p := ⟨w.heap.size + 1, 2, none⟩) lRB_4).trans RB_4_2, (hy.cell (p := ⟨w.heap.size + 1, 3, none⟩) lRB_4).trans RB_4_3, (hy.cell (p := ⟨w.heap.size + 1, 4, none⟩) lRB_4).trans RB_4_4, (hy.cell (p := ⟨w.heap.size + 1, 5, none⟩) lRB_4).trans RB_4_5, (hy.cell (p := ⟨w.heap.size + 1, 6, none⟩) lRB_4).trans RB_4_6, (hy.cell (p := ⟨w.heap.size + 1, 7, none⟩) lRB_4).trans RB_4_7, (hy.cell (p := ⟨w.heap.size + 1, 8, none⟩) lRB_4).trans RB_4_8⟩
        refine wp_region_held_drew (S := (fun w' => w'.cell? ⟨w.heap.size, 0, none⟩ = some (.int .i64 o) ∧ w'.cell? ⟨w.heap.size, 1, none⟩ = some (.int .i64 h) ∧ w'.cell? ⟨w.heap.size + 1, 0, none⟩ = some (.slice AT tn tc) ∧ w'.cell? ⟨w.heap.size + 1, 1, none⟩ = some (.int .i64 r.a) ∧ w'.cell? ⟨w.heap.size + 1, 2, none⟩ = some (.int .i64 r.b) ∧ w'.cell? ⟨w.heap.size + 1, 3, none⟩ = some (.int .i64 r.nc) ∧ w'.cell? ⟨w.heap.size + 1, 4, none⟩ = some (.int .i64 r.dn) ∧ w'.cell? ⟨w.heap.size + 1, 5, none⟩ = some (.int .i64 r.br) ∧ w'.cell? ⟨w.heap.size + 1, 6, none⟩ = some (.int .i64 r.em) ∧ w'.cell? ⟨w.heap.size + 1, 7, none⟩ = some (.int .i64 r.pa) ∧ w'.cell? ⟨w.heap.size + 1, 8, none⟩ = some (.int .i64 r.sc))) (by kernel_rfl) (HS.out _ (Below.refl _ _).drew) (fun hHeld => ?_)
        have hT0 : Below x4.heap.size x4 x4.drew := (Below.refl _ _).drew
        generalize hdr : x4.drew = y4v0 at *
        clear hdr
        refine tkH 0 ⟨some 55, _, _, _, _, _⟩ ?_ rfl ?_ (by assumption) ?_
        rotate_left
        · (intro w hSw; (try dsimp only at hSw); go_simp; all_goals with_reducible rfl)
        try simp only [Act.put, sA, sB, sC]
        refine tkH 1 ⟨some 56, _, _, _, _, _⟩ ?_ rfl ?_ (by assumption) ?_
        rotate_left
        · (intro w hSw; (try dsimp only at hSw); go_simp; all_goals with_reducible rfl)
        try simp only [Act.put, sA, sB, sC]
        refine tkH 2 ⟨some 57, _, _, _, _, _⟩ ?_ rfl ?_ (by assumption) ?_
        rotate_left
        · (intro w hSw; (try dsimp only at hSw); go_simp; all_goals with_reducible rfl)
        try simp only [Act.put, sA, sB, sC]
        refine tkH 3 ⟨some 58, _, _, _, _, _⟩ ?_ rfl ?_ (by assumption) ?_
        rotate_left
        · (intro w hSw; (try dsimp only at hSw); go_simp; (try simp only [e1, e2]); all_goals with_reducible rfl)
        try simp only [Act.put, sA, sB, sC]
        refine tkH 6 ⟨some 61, _, _, _, _, _⟩ ?_ rfl ?_ (by assumption) ?_
        rotate_left
        · (intro w hSw; (try dsimp only at hSw); go_simp; all_goals with_reducible rfl)
        try simp only [Act.put, sA, sB, sC]
        refine tkH 7 ⟨some 62, _, _, _, _, _⟩ ?_ rfl ?_ (by assumption) ?_
        rotate_left
        · (intro w hSw; (try dsimp only at hSw); go_simp; all_goals with_reducible rfl)
        try simp only [Act.put, sA, sB, sC]
        refine wpAnyH_ready (rs := [4]) (by kernel_rfl) (by simp) ?_
        refine AllReadyH.cons rfl (fun K hK => ?_) (AllReadyH.nil)
        go_simp
        refine (denB o h s hi dx dv _ k1 k2 k3 k4 k7 h0 h9 hdx hdv).mono ?_
        rintro e y4v1 ⟨rfl, hby4v0⟩
        have hT1 : Below x4.heap.size x4 y4v1 := hT0.trans (hby4v0.mono hT0.size)
        clear hby4v0
        go_wp2_with fail
        refine hK.out _ _ (HS.out _ hT1) (fun hHeld => ?_)
        clear hK K
        try simp only [Act.put, sA, sB, sC]
        refine tkH 5 ⟨some 60, _, _, _, _, _⟩ ?_ rfl ?_ (by assumption) ?_
        rotate_left
        · (intro w hSw; (try dsimp only at hSw); go_simp; all_goals with_reducible rfl)
        try simp only [Act.put, sA, sB, sC]
        refine tkH 8 ⟨some 63, _, _, _, _, _⟩ ?_ rfl ?_ (by assumption) ?_
        rotate_left
        · (intro w hSw; (try dsimp only at hSw); go_simp; all_goals with_reducible rfl)
        try simp only [Act.put, sA, sB, sC]
        refine wpAnyH_done (by kernel_rfl) ?_ _
        have hc5 : Below x4.heap.size x4 y4v1 := hT1
        have hB5 : Below w.heap.size w y4v1 := hB4.trans (hc5.mono hB4.size)
        have zu5 := hB5.size
        replace HOW := Lib.hid (HOW.out.below hc5)
        replace GB := Lib.hid (GB.out.below hc5)
        replace RB := Lib.hid (RB.out.below hc5)
        clear GB_4_0 GB_4_1 lGB_4 nGB_4 mGB_4 RB_4_0 RB_4_1 RB_4_2 RB_4_3 RB_4_4 RB_4_5 RB_4_6 RB_4_7 RB_4_8 lRB_4 nRB_4 mRB_4 zz4
        clear HS hHeld hT0 hT1 hB4 zu4
        obtain ⟨GB_5_0, GB_5_1⟩ := b2 GB.out
        have lGB_5 := GB.out.lt
        have nGB_5 : y4v1.heap.size ≠ w.heap.size := by omega
        have mGB_5 : w.heap.size ≠ y4v1.heap.size := by omega
        obtain ⟨RB_5_0, RB_5_1, RB_5_2, RB_5_3, RB_5_4, RB_5_5, RB_5_6, RB_5_7, RB_5_8⟩ := b9 RB.out
        have lRB_5 := RB.out.lt
        have nRB_5 : y4v1.heap.size ≠ w.heap.size + 1 := by omega
        have mRB_5 : w.heap.size + 1 ≠ y4v1.heap.size := by omega
        by_cases g3 : r.dn < dv
        · have G3 := Lib.hid g3
          go_wp2_with (at_builtin; refine wpList_append_slG rfl _ _ 42 rfl (w.heap.size + 2) 3 i0 (.int .i64 0) 1 8 Try.underlying42 HI.out HZ0.out HZ1.out HZ2.out rfl (by decide) (.slice A4 2 c4) 2 (rowsV inV [2, 3]) rfl (own_belowG HOW.out ((Below.refl _ _).alloc (Nat.le_refl _) _) (Nat.le_refl _)) (some ⟨y4v1.heap.size, 0, none⟩) 1 1 [.int .i64 4] rfl (fun h => by cases h) rfl (fun ad had j v hj => by cases had; rw [addNR, Nat.zero_add]; exact (BlkF.made (B := 0) y4v1 [.int .i64 4] 3 (Nat.zero_le _)).at' j v hj) (by intro v hv; simp at hv; subst hv; rfl) (by unfold maxLen; omega) (by omega) (by simp; omega) ?_)
          intro v6 x6 hown6 hgrow6 hblk6
          have hN6 : Below (w.heap.size + 2) y4v1 x6 := ((Below.refl (w.heap.size + 2) y4v1).alloc (by omega) _).grown hgrow6 (by simp; omega) (fun r hr => (own_blockG HOW.out r hr).1)
          obtain ⟨A6, c6, hv6, hS6, _, _, _, _⟩ := SlRows_own (f := inV) (n := 1) (L := [2, 3, 4]) (fun _ => rfl) hown6
          replace hv6 : v6 = .slice A6 3 c6 := hv6
          subst hv6
          replace HOW : Hid (OwR (w.heap.size + 2) (.slice A6 3 c6) 3 (rowsV inV [2, 3, 4]) x6) := Lib.hid hown6
          replace GB := Lib.hid (GB.out.belowN hN6 (by omega))
          replace RB := Lib.hid (RB.out.belowN hN6 (by omega))
          have hB6 : Below w.heap.size w x6 := hB5.trans (hN6.mono (by omega))
          have zu6 := hB6.size
          have zz6 := RB.out.lt
          clear hown6 hgrow6 hblk6 hN6 hS6 hB5 zu5 GB_5_0 GB_5_1 lGB_5 nGB_5 mGB_5 RB_5_0 RB_5_1 RB_5_2 RB_5_3 RB_5_4 RB_5_5 RB_5_6 RB_5_7 RB_5_8 lRB_5 nRB_5 mRB_5
          obtain ⟨GB_6_0, GB_6_1⟩ := b2 GB.out
          have lGB_6 := GB.out.lt
          have nGB_6 : x6.heap.size ≠ w.heap.size := by omega
          have mGB_6 : w.heap.size ≠ x6.heap.size := by omega
          obtain ⟨RB_6_0, RB_6_1, RB_6_2, RB_6_3, RB_6_4, RB_6_5, RB_6_6, RB_6_7, RB_6_8⟩ := b9 RB.out
          have lRB_6 := RB.out.lt
          have nRB_6 : x6.heap.size ≠ w.heap.size + 1 := by omega
          have mRB_6 : w.heap.size + 1 ≠ x6.heap.size := by omega
          go_wp2
          go_ret
          have hQ : Hid (L = [2, 3, 4]) := Lib.hid (by rw [← hL.out]; rw [hLL.out, if_neg (show ¬ o * lo < 1000 * r.a by have := G0.out; omega), if_pos (show 1000 * r.b < o * hi by have := G1.out; omega), if_pos (show r.nc < nv by have := G2.out; omega), if_pos (show r.dn < dv by have := G3.out; omega)]; rfl)
          obtain rfl := hQ.out
          obtain ⟨Az, cz, hvz, hSz, hgz, _, _, _⟩ := SlRows_own (f := inV) (n := 1) (L := [2, 3, 4]) (fun _ => rfl) HOW.out
          injection hvz with hq _ _
          rw [← hq] at hSz hgz
          first | exact ⟨A6, ⟨c6, rfl⟩, hSz, (fun ad h => Nat.le_trans (by omega) (hgz ad h)), hB6⟩ | exact ⟨A6, c6, rfl, hSz, (fun ad h => Nat.le_trans (by omega) (hgz ad h)), hB6⟩
        · have G3 := Lib.hid g3
          go_wp2
          go_ret
          have hQ : Hid (L = [2, 3]) := Lib.hid (by rw [← hL.out]; rw [hLL.out, if_neg (show ¬ o * lo < 1000 * r.a by have := G0.out; omega), if_pos (show 1000 * r.b < o * hi by have := G1.out; omega), if_pos (show r.nc < nv by have := G2.out; omega), if_neg (show ¬ r.dn < dv by have := G3.out; omega)]; rfl)
          obtain rfl := hQ.out
          obtain ⟨Az, cz, hvz, hSz, hgz, _, _, _⟩ := SlRows_own (f := inV) (n := 1) (L := [2, 3]) (fun _ => rfl) HOW.out
          injection hvz with hq _ _
          rw [← hq] at hSz hgz
          first | exact ⟨A4, ⟨c4, rfl⟩, hSz, (fun ad h => Nat.le_trans (by omega) (hgz ad h)), hB5⟩ | exact ⟨A4, c4, rfl, hSz, (fun ad h => Nat.le_trans (by omega) (hgz ad h)), hB5⟩
      · have G2 := Lib.hid g2
        go_upto_region 8 with (fail)
        have HS : Hid (∀ y, Below y2v1.heap.size y2v1 y → y.cell? ⟨w.heap.size, 0, none⟩ = some (.int .i64 o) ∧ y.cell? ⟨w.heap.size, 1, none⟩ = some (.int .i64 h) ∧ y.cell? ⟨w.heap.size + 1, 0, none⟩ = some (.slice AT tn tc) ∧ y.cell? ⟨w.heap.size + 1, 1, none⟩ = some (.int .i64 r.a) ∧ y.cell? ⟨w.heap.size + 1, 2, none⟩ = some (.int .i64 r.b) ∧ y.cell? ⟨w.heap.size + 1, 3, none⟩ = some (.int .i64 r.nc) ∧ y.cell? ⟨w.heap.size + 1, 4, none⟩ = some (.int .i64 r.dn) ∧ y.cell? ⟨w.heap.size + 1, 5, none⟩ = some (.int .i64 r.br) ∧ y.cell? ⟨w.heap.size + 1, 6, none⟩ = some (.int .i64 r.em) ∧ y.cell? ⟨w.heap.size + 1, 7, none⟩ = some (.int .i64 r.pa) ∧ y.cell? ⟨w.heap.size + 1, 8, none⟩ = some (.int .i64 r.sc)) := Lib.hid fun y hy => ⟨(hy.cell (p := ⟨w.heap.size, 0, none⟩) lGB_3).trans GB_3_0, (hy.cell (p := ⟨w.heap.size, 1, none⟩) lGB_3).trans GB_3_1, (hy.cell (p := ⟨w.heap.size + 1, 0, none⟩) lRB_3).trans RB_3_0, (hy.cell (p := ⟨w.heap.size + 1, 1, none⟩) lRB_3).trans RB_3_1, (hy.cell (p := ⟨w.heap.size + 1, 2, none⟩) lRB_3).trans RB_3_2, (hy.cell (p := ⟨w.heap.size + 1, 3, none⟩) lRB_3).trans RB_3_3, (hy.cell (p := ⟨w.heap.size + 1, 4, none⟩) lRB_3).trans RB_3_4, (hy.cell (p := ⟨w.heap.size + 1, 5, none⟩) lRB_3).trans RB_3_5, (hy.cell (p := ⟨w.heap.size + 1, 6, none⟩) lRB_3).trans RB_3_6, (hy.cell (p := ⟨w.heap.size + 1, 7, none⟩) lRB_3).trans RB_3_7, (hy.cell (p := ⟨w.heap.size + 1, 8, none⟩) lRB_3).trans RB_3_8⟩
        refine wp_region_held_drew (S := (fun w' => w'.cell? ⟨w.heap.size, 0, none⟩ = some (.int .i64 o) ∧ w'.cell? ⟨w.heap.size, 1, none⟩ = some (.int .i64 h) ∧ w'.cell? ⟨w.heap.size + 1, 0, none⟩ = some (.slice AT tn tc) ∧ w'.cell? ⟨w.heap.size + 1, 1, none⟩ = some (.int .i64 r.a) ∧ w'.cell? ⟨w.heap.size + 1, 2, none⟩ = some (.int .i64 r.b) ∧ w'.cell? ⟨w.heap.size + 1, 3, none⟩ = some (.int .i64 r.nc) ∧ w'.cell? ⟨w.heap.size + 1, 4, none⟩ = some (.int .i64 r.dn) ∧ w'.cell? ⟨w.heap.size + 1, 5, none⟩ = some (.int .i64 r.br) ∧ w'.cell? ⟨w.heap.size + 1, 6, none⟩ = some (.int .i64 r.em) ∧ w'.cell? ⟨w.heap.size + 1, 7, none⟩ = some (.int .i64 r.pa) ∧ w'.cell? ⟨w.heap.size + 1, 8, none⟩ = some (.int .i64 r.sc))) (by kernel_rfl) (HS.out _ (Below.refl _ _).drew) (fun hHeld => ?_)
        have hT0 : Below y2v1.heap.size y2v1 y2v1.drew := (Below.refl _ _).drew
        generalize hdr : y2v1.drew = y3v0 at *
        clear hdr
        refine tkH 0 ⟨some 55, _, _, _, _, _⟩ ?_ rfl ?_ (by assumption) ?_
        rotate_left
        · (intro w hSw; (try dsimp only at hSw); go_simp; all_goals with_reducible rfl)
        try simp only [Act.put, sA, sB, sC]
        refine tkH 1 ⟨some 56, _, _, _, _, _⟩ ?_ rfl ?_ (by assumption) ?_
        rotate_left
        · (intro w hSw; (try dsimp only at hSw); go_simp; all_goals with_reducible rfl)
        try simp only [Act.put, sA, sB, sC]
        refine tkH 2 ⟨some 57, _, _, _, _, _⟩ ?_ rfl ?_ (by assumption) ?_
        rotate_left
        · (intro w hSw; (try dsimp only at hSw); go_simp; all_goals with_reducible rfl)
        try simp only [Act.put, sA, sB, sC]
        refine tkH 3 ⟨some 58, _, _, _, _, _⟩ ?_ rfl ?_ (by assumption) ?_
        rotate_left
        · (intro w hSw; (try dsimp only at hSw); go_simp; (try simp only [e1, e2]); all_goals with_reducible rfl)
        try simp only [Act.put, sA, sB, sC]
        refine tkH 6 ⟨some 61, _, _, _, _, _⟩ ?_ rfl ?_ (by assumption) ?_
        rotate_left
        · (intro w hSw; (try dsimp only at hSw); go_simp; all_goals with_reducible rfl)
        try simp only [Act.put, sA, sB, sC]
        refine tkH 7 ⟨some 62, _, _, _, _, _⟩ ?_ rfl ?_ (by assumption) ?_
        rotate_left
        · (intro w hSw; (try dsimp only at hSw); go_simp; all_goals with_reducible rfl)
        try simp only [Act.put, sA, sB, sC]
        refine wpAnyH_ready (rs := [4]) (by kernel_rfl) (by simp) ?_
        refine AllReadyH.cons rfl (fun K hK => ?_) (AllReadyH.nil)
        go_simp
        refine (denB o h s hi dx dv _ k1 k2 k3 k4 k7 h0 h9 hdx hdv).mono ?_
        rintro e y3v1 ⟨rfl, hby3v0⟩
        have hT1 : Below y2v1.heap.size y2v1 y3v1 := hT0.trans (hby3v0.mono hT0.size)
        clear hby3v0
        go_wp2_with fail
        refine hK.out _ _ (HS.out _ hT1) (fun hHeld => ?_)
        clear hK K
        try simp only [Act.put, sA, sB, sC]
        refine tkH 5 ⟨some 60, _, _, _, _, _⟩ ?_ rfl ?_ (by assumption) ?_
        rotate_left
        · (intro w hSw; (try dsimp only at hSw); go_simp; all_goals with_reducible rfl)
        try simp only [Act.put, sA, sB, sC]
        refine tkH 8 ⟨some 63, _, _, _, _, _⟩ ?_ rfl ?_ (by assumption) ?_
        rotate_left
        · (intro w hSw; (try dsimp only at hSw); go_simp; all_goals with_reducible rfl)
        try simp only [Act.put, sA, sB, sC]
        refine wpAnyH_done (by kernel_rfl) ?_ _
        have hc4 : Below y2v1.heap.size y2v1 y3v1 := hT1
        have hB4 : Below w.heap.size w y3v1 := hB3.trans (hc4.mono hB3.size)
        have zu4 := hB4.size
        replace HOW := Lib.hid (HOW.out.below hc4)
        replace GB := Lib.hid (GB.out.below hc4)
        replace RB := Lib.hid (RB.out.below hc4)
        clear GB_3_0 GB_3_1 lGB_3 nGB_3 mGB_3 RB_3_0 RB_3_1 RB_3_2 RB_3_3 RB_3_4 RB_3_5 RB_3_6 RB_3_7 RB_3_8 lRB_3 nRB_3 mRB_3
        clear HS hHeld hT0 hT1 hB3 zu3 hc3
        obtain ⟨GB_4_0, GB_4_1⟩ := b2 GB.out
        have lGB_4 := GB.out.lt
        have nGB_4 : y3v1.heap.size ≠ w.heap.size := by omega
        have mGB_4 : w.heap.size ≠ y3v1.heap.size := by omega
        obtain ⟨RB_4_0, RB_4_1, RB_4_2, RB_4_3, RB_4_4, RB_4_5, RB_4_6, RB_4_7, RB_4_8⟩ := b9 RB.out
        have lRB_4 := RB.out.lt
        have nRB_4 : y3v1.heap.size ≠ w.heap.size + 1 := by omega
        have mRB_4 : w.heap.size + 1 ≠ y3v1.heap.size := by omega
        by_cases g3 : r.dn < dv
        · have G3 := Lib.hid g3
          go_wp2_with (at_builtin; refine wpList_append_slG rfl _ _ 42 rfl (w.heap.size + 2) 3 i0 (.int .i64 0) 1 8 Try.underlying42 HI.out HZ0.out HZ1.out HZ2.out rfl (by decide) (.slice A2 1 c2) 1 (rowsV inV [2]) rfl (own_belowG HOW.out ((Below.refl _ _).alloc (Nat.le_refl _) _) (Nat.le_refl _)) (some ⟨y3v1.heap.size, 0, none⟩) 1 1 [.int .i64 4] rfl (fun h => by cases h) rfl (fun ad had j v hj => by cases had; rw [addNR, Nat.zero_add]; exact (BlkF.made (B := 0) y3v1 [.int .i64 4] 3 (Nat.zero_le _)).at' j v hj) (by intro v hv; simp at hv; subst hv; rfl) (by unfold maxLen; omega) (by omega) (by simp; omega) ?_)
          intro v5 x5 hown5 hgrow5 hblk5
          have hN5 : Below (w.heap.size + 2) y3v1 x5 := ((Below.refl (w.heap.size + 2) y3v1).alloc (by omega) _).grown hgrow5 (by simp; omega) (fun r hr => (own_blockG HOW.out r hr).1)
          obtain ⟨A5, c5, hv5, hS5, _, _, _, _⟩ := SlRows_own (f := inV) (n := 1) (L := [2, 4]) (fun _ => rfl) hown5
          replace hv5 : v5 = .slice A5 2 c5 := hv5
          subst hv5
          replace HOW : Hid (OwR (w.heap.size + 2) (.slice A5 2 c5) 2 (rowsV inV [2, 4]) x5) := Lib.hid hown5
          replace GB := Lib.hid (GB.out.belowN hN5 (by omega))
          replace RB := Lib.hid (RB.out.belowN hN5 (by omega))
          have hB5 : Below w.heap.size w x5 := hB4.trans (hN5.mono (by omega))
          have zu5 := hB5.size
          have zz5 := RB.out.lt
          clear hown5 hgrow5 hblk5 hN5 hS5 hB4 zu4 GB_4_0 GB_4_1 lGB_4 nGB_4 mGB_4 RB_4_0 RB_4_1 RB_4_2 RB_4_3 RB_4_4 RB_4_5 RB_4_6 RB_4_7 RB_4_8 lRB_4 nRB_4 mRB_4
          obtain ⟨GB_5_0, GB_5_1⟩ := b2 GB.out
          have lGB_5 := GB.out.lt
          have nGB_5 : x5.heap.size ≠ w.heap.size := by omega
          have mGB_5 : w.heap.size ≠ x5.heap.size := by omega
          obtain ⟨RB_5_0, RB_5_1, RB_5_2, RB_5_3, RB_5_4, RB_5_5, RB_5_6, RB_5_7, RB_5_8⟩ := b9 RB.out
          have lRB_5 := RB.out.lt
          have nRB_5 : x5.heap.size ≠ w.heap.size + 1 := by omega
          have mRB_5 : w.heap.size + 1 ≠ x5.heap.size := by omega
          go_wp2
          go_ret
          have hQ : Hid (L = [2, 4]) := Lib.hid (by rw [← hL.out]; rw [hLL.out, if_neg (show ¬ o * lo < 1000 * r.a by have := G0.out; omega), if_pos (show 1000 * r.b < o * hi by have := G1.out; omega), if_neg (show ¬ r.nc < nv by have := G2.out; omega), if_pos (show r.dn < dv by have := G3.out; omega)]; rfl)
          obtain rfl := hQ.out
          obtain ⟨Az, cz, hvz, hSz, hgz, _, _, _⟩ := SlRows_own (f := inV) (n := 1) (L := [2, 4]) (fun _ => rfl) HOW.out
          injection hvz with hq _ _
          rw [← hq] at hSz hgz
          first | exact ⟨A5, ⟨c5, rfl⟩, hSz, (fun ad h => Nat.le_trans (by omega) (hgz ad h)), hB5⟩ | exact ⟨A5, c5, rfl, hSz, (fun ad h => Nat.le_trans (by omega) (hgz ad h)), hB5⟩
        · have G3 := Lib.hid g3
          go_wp2
          go_ret
          have hQ : Hid (L = [2]) := Lib.hid (by rw [← hL.out]; rw [hLL.out, if_neg (show ¬ o * lo < 1000 * r.a by have := G0.out; omega), if_pos (show 1000 * r.b < o * hi by have := G1.out; omega), if_neg (show ¬ r.nc < nv by have := G2.out; omega), if_neg (show ¬ r.dn < dv by have := G3.out; omega)]; rfl)
          obtain rfl := hQ.out
          obtain ⟨Az, cz, hvz, hSz, hgz, _, _, _⟩ := SlRows_own (f := inV) (n := 1) (L := [2]) (fun _ => rfl) HOW.out
          injection hvz with hq _ _
          rw [← hq] at hSz hgz
          first | exact ⟨A2, ⟨c2, rfl⟩, hSz, (fun ad h => Nat.le_trans (by omega) (hgz ad h)), hB4⟩ | exact ⟨A2, c2, rfl, hSz, (fun ad h => Nat.le_trans (by omega) (hgz ad h)), hB4⟩
    · have G1 := Lib.hid g1
      go_upto_region 6 with (fail)
      have HS : Hid (∀ y, Below x1.heap.size x1 y → y.cell? ⟨w.heap.size, 0, none⟩ = some (.int .i64 o) ∧ y.cell? ⟨w.heap.size, 1, none⟩ = some (.int .i64 h) ∧ y.cell? ⟨w.heap.size + 1, 0, none⟩ = some (.slice AT tn tc) ∧ y.cell? ⟨w.heap.size + 1, 1, none⟩ = some (.int .i64 r.a) ∧ y.cell? ⟨w.heap.size + 1, 2, none⟩ = some (.int .i64 r.b) ∧ y.cell? ⟨w.heap.size + 1, 3, none⟩ = some (.int .i64 r.nc) ∧ y.cell? ⟨w.heap.size + 1, 4, none⟩ = some (.int .i64 r.dn) ∧ y.cell? ⟨w.heap.size + 1, 5, none⟩ = some (.int .i64 r.br) ∧ y.cell? ⟨w.heap.size + 1, 6, none⟩ = some (.int .i64 r.em) ∧ y.cell? ⟨w.heap.size + 1, 7, none⟩ = some (.int .i64 r.pa) ∧ y.cell? ⟨w.heap.size + 1, 8, none⟩ = some (.int .i64 r.sc)) := Lib.hid fun y hy => ⟨(hy.cell (p := ⟨w.heap.size, 0, none⟩) lGB_1).trans GB_1_0, (hy.cell (p := ⟨w.heap.size, 1, none⟩) lGB_1).trans GB_1_1, (hy.cell (p := ⟨w.heap.size + 1, 0, none⟩) lRB_1).trans RB_1_0, (hy.cell (p := ⟨w.heap.size + 1, 1, none⟩) lRB_1).trans RB_1_1, (hy.cell (p := ⟨w.heap.size + 1, 2, none⟩) lRB_1).trans RB_1_2, (hy.cell (p := ⟨w.heap.size + 1, 3, none⟩) lRB_1).trans RB_1_3, (hy.cell (p := ⟨w.heap.size + 1, 4, none⟩) lRB_1).trans RB_1_4, (hy.cell (p := ⟨w.heap.size + 1, 5, none⟩) lRB_1).trans RB_1_5, (hy.cell (p := ⟨w.heap.size + 1, 6, none⟩) lRB_1).trans RB_1_6, (hy.cell (p := ⟨w.heap.size + 1, 7, none⟩) lRB_1).trans RB_1_7, (hy.cell (p := ⟨w.heap.size + 1, 8, none⟩) lRB_1).trans RB_1_8⟩
      refine wp_region_held_drew (S := (fun w' => w'.cell? ⟨w.heap.size, 0, none⟩ = some (.int .i64 o) ∧ w'.cell? ⟨w.heap.size, 1, none⟩ = some (.int .i64 h) ∧ w'.cell? ⟨w.heap.size + 1, 0, none⟩ = some (.slice AT tn tc) ∧ w'.cell? ⟨w.heap.size + 1, 1, none⟩ = some (.int .i64 r.a) ∧ w'.cell? ⟨w.heap.size + 1, 2, none⟩ = some (.int .i64 r.b) ∧ w'.cell? ⟨w.heap.size + 1, 3, none⟩ = some (.int .i64 r.nc) ∧ w'.cell? ⟨w.heap.size + 1, 4, none⟩ = some (.int .i64 r.dn) ∧ w'.cell? ⟨w.heap.size + 1, 5, none⟩ = some (.int .i64 r.br) ∧ w'.cell? ⟨w.heap.size + 1, 6, none⟩ = some (.int .i64 r.em) ∧ w'.cell? ⟨w.heap.size + 1, 7, none⟩ = some (.int .i64 r.pa) ∧ w'.cell? ⟨w.heap.size + 1, 8, none⟩ = some (.int .i64 r.sc))) (by kernel_rfl) (HS.out _ (Below.refl _ _).drew) (fun hHeld => ?_)
      have hT0 : Below x1.heap.size x1 x1.drew := (Below.refl _ _).drew
      generalize hdr : x1.drew = y1v0 at *
      clear hdr
      refine tkH 0 ⟨some 40, _, _, _, _, _⟩ ?_ rfl ?_ (by assumption) ?_
      rotate_left
      · (intro w hSw; (try dsimp only at hSw); go_simp; all_goals with_reducible rfl)
      try simp only [Act.put, sA, sB, sC]
      refine tkH 1 ⟨some 41, _, _, _, _, _⟩ ?_ rfl ?_ (by assumption) ?_
      rotate_left
      · (intro w hSw; (try dsimp only at hSw); go_simp; all_goals with_reducible rfl)
      try simp only [Act.put, sA, sB, sC]
      refine tkH 2 ⟨some 42, _, _, _, _, _⟩ ?_ rfl ?_ (by assumption) ?_
      rotate_left
      · (intro w hSw; (try dsimp only at hSw); go_simp; all_goals with_reducible rfl)
      try simp only [Act.put, sA, sB, sC]
      refine tkH 3 ⟨some 43, _, _, _, _, _⟩ ?_ rfl ?_ (by assumption) ?_
      rotate_left
      · (intro w hSw; (try dsimp only at hSw); go_simp; all_goals with_reducible rfl)
      try simp only [Act.put, sA, sB, sC]
      refine tkH 4 ⟨some 44, _, _, _, _, _⟩ ?_ rfl ?_ (by assumption) ?_
      rotate_left
      · (intro w hSw; (try dsimp only at hSw); go_simp; (try simp only [e1, e2]); all_goals with_reducible rfl)
      try simp only [Act.put, sA, sB, sC]
      refine tkH 5 ⟨some 45, _, _, _, _, _⟩ ?_ rfl ?_ (by assumption) ?_
      rotate_left
      · (intro w hSw; (try dsimp only at hSw); go_simp; all_goals with_reducible rfl)
      try simp only [Act.put, sA, sB, sC]
      refine tkH 6 ⟨some 46, _, _, _, _, _⟩ ?_ rfl ?_ (by assumption) ?_
      rotate_left
      · (intro w hSw; (try dsimp only at hSw); go_simp; all_goals with_reducible rfl)
      try simp only [Act.put, sA, sB, sC]
      refine tkH 9 ⟨some 49, _, _, _, _, _⟩ ?_ rfl ?_ (by assumption) ?_
      rotate_left
      · (intro w hSw; (try dsimp only at hSw); go_simp; all_goals with_reducible rfl)
      try simp only [Act.put, sA, sB, sC]
      refine tkH 10 ⟨some 50, _, _, _, _, _⟩ ?_ rfl ?_ (by assumption) ?_
      rotate_left
      · (intro w hSw; (try dsimp only at hSw); go_simp; all_goals with_reducible rfl)
      try simp only [Act.put, sA, sB, sC]
      refine wpAnyH_ready (rs := [7]) (by kernel_rfl) (by simp) ?_
      refine AllReadyH.cons rfl (fun K hK => ?_) (AllReadyH.nil)
      go_simp
      refine (narB o h s dd nx nv _ k1 k2 k3 k4 k7 s0 s1 d0 d1 hnx hnv).mono ?_
      rintro e y1v1 ⟨rfl, hby1v0⟩
      have hT1 : Below x1.heap.size x1 y1v1 := hT0.trans (hby1v0.mono hT0.size)
      clear hby1v0
      go_wp2_with fail
      refine hK.out _ _ (HS.out _ hT1) (fun hHeld => ?_)
      clear hK K
      try simp only [Act.put, sA, sB, sC]
      refine tkH 8 ⟨some 48, _, _, _, _, _⟩ ?_ rfl ?_ (by assumption) ?_
      rotate_left
      · (intro w hSw; (try dsimp only at hSw); go_simp; all_goals with_reducible rfl)
      try simp only [Act.put, sA, sB, sC]
      refine tkH 11 ⟨some 51, _, _, _, _, _⟩ ?_ rfl ?_ (by assumption) ?_
      rotate_left
      · (intro w hSw; (try dsimp only at hSw); go_simp; all_goals with_reducible rfl)
      try simp only [Act.put, sA, sB, sC]
      refine wpAnyH_done (by kernel_rfl) ?_ _
      have hc2 : Below x1.heap.size x1 y1v1 := hT1
      have hB2 : Below w.heap.size w y1v1 := hB1.trans (hc2.mono hB1.size)
      have zu2 := hB2.size
      replace HOW := Lib.hid (HOW.out.below hc2)
      replace GB := Lib.hid (GB.out.below hc2)
      replace RB := Lib.hid (RB.out.below hc2)
      clear GB_1_0 GB_1_1 lGB_1 nGB_1 mGB_1 RB_1_0 RB_1_1 RB_1_2 RB_1_3 RB_1_4 RB_1_5 RB_1_6 RB_1_7 RB_1_8 lRB_1 nRB_1 mRB_1 zz1
      clear HS hHeld hT0 hT1 hB1 zu1 hc1
      obtain ⟨GB_2_0, GB_2_1⟩ := b2 GB.out
      have lGB_2 := GB.out.lt
      have nGB_2 : y1v1.heap.size ≠ w.heap.size := by omega
      have mGB_2 : w.heap.size ≠ y1v1.heap.size := by omega
      obtain ⟨RB_2_0, RB_2_1, RB_2_2, RB_2_3, RB_2_4, RB_2_5, RB_2_6, RB_2_7, RB_2_8⟩ := b9 RB.out
      have lRB_2 := RB.out.lt
      have nRB_2 : y1v1.heap.size ≠ w.heap.size + 1 := by omega
      have mRB_2 : w.heap.size + 1 ≠ y1v1.heap.size := by omega
      by_cases g2 : r.nc < nv
      · have G2 := Lib.hid g2
        go_wp2_with (at_builtin; refine wpList_append_slG rfl _ _ 42 rfl (w.heap.size + 2) 3 i0 (.int .i64 0) 1 8 Try.underlying42 HI.out HZ0.out HZ1.out HZ2.out rfl (by decide) (.slice none 0 0) 0 [] rfl (own_belowG HOW.out ((Below.refl _ _).alloc (Nat.le_refl _) _) (Nat.le_refl _)) (some ⟨y1v1.heap.size, 0, none⟩) 1 1 [.int .i64 3] rfl (fun h => by cases h) rfl (fun ad had j v hj => by cases had; rw [addNR, Nat.zero_add]; exact (BlkF.made (B := 0) y1v1 [.int .i64 3] 3 (Nat.zero_le _)).at' j v hj) (by intro v hv; simp at hv; subst hv; rfl) (by unfold maxLen; omega) (by omega) (by simp; omega) ?_)
        intro v3 x3 hown3 hgrow3 hblk3
        have hN3 : Below (w.heap.size + 2) y1v1 x3 := ((Below.refl (w.heap.size + 2) y1v1).alloc (by omega) _).grown hgrow3 (by simp; omega) (fun r hr => (own_blockG HOW.out r hr).1)
        obtain ⟨A3, c3, hv3, hS3, _, _, _, _⟩ := SlRows_own (f := inV) (n := 1) (L := [3]) (fun _ => rfl) hown3
        replace hv3 : v3 = .slice A3 1 c3 := hv3
        subst hv3
        replace HOW : Hid (OwR (w.heap.size + 2) (.slice A3 1 c3) 1 (rowsV inV [3]) x3) := Lib.hid hown3
        replace GB := Lib.hid (GB.out.belowN hN3 (by omega))
        replace RB := Lib.hid (RB.out.belowN hN3 (by omega))
        have hB3 : Below w.heap.size w x3 := hB2.trans (hN3.mono (by omega))
        have zu3 := hB3.size
        have zz3 := RB.out.lt
        clear hown3 hgrow3 hblk3 hN3 hS3 hB2 zu2 GB_2_0 GB_2_1 lGB_2 nGB_2 mGB_2 RB_2_0 RB_2_1 RB_2_2 RB_2_3 RB_2_4 RB_2_5 RB_2_6 RB_2_7 RB_2_8 lRB_2 nRB_2 mRB_2
        obtain ⟨GB_3_0, GB_3_1⟩ := b2 GB.out
        have lGB_3 := GB.out.lt
        have nGB_3 : x3.heap.size ≠ w.heap.size := by omega
        have mGB_3 : w.heap.size ≠ x3.heap.size := by omega
        obtain ⟨RB_3_0, RB_3_1, RB_3_2, RB_3_3, RB_3_4, RB_3_5, RB_3_6, RB_3_7, RB_3_8⟩ := b9 RB.out
        have lRB_3 := RB.out.lt
        have nRB_3 : x3.heap.size ≠ w.heap.size + 1 := by omega
        have mRB_3 : w.heap.size + 1 ≠ x3.heap.size := by omega
        go_upto_region 8 with (fail)
        have HS : Hid (∀ y, Below x3.heap.size x3 y → y.cell? ⟨w.heap.size, 0, none⟩ = some (.int .i64 o) ∧ y.cell? ⟨w.heap.size, 1, none⟩ = some (.int .i64 h) ∧ y.cell? ⟨w.heap.size + 1, 0, none⟩ = some (.slice AT tn tc) ∧ y.cell? ⟨w.heap.size + 1, 1, none⟩ = some (.int .i64 r.a) ∧ y.cell? ⟨w.heap.size + 1, 2, none⟩ = some (.int .i64 r.b) ∧ y.cell? ⟨w.heap.size + 1, 3, none⟩ = some (.int .i64 r.nc) ∧ y.cell? ⟨w.heap.size + 1, 4, none⟩ = some (.int .i64 r.dn) ∧ y.cell? ⟨w.heap.size + 1, 5, none⟩ = some (.int .i64 r.br) ∧ y.cell? ⟨w.heap.size + 1, 6, none⟩ = some (.int .i64 r.em) ∧ y.cell? ⟨w.heap.size + 1, 7, none⟩ = some (.int .i64 r.pa) ∧ y.cell? ⟨w.heap.size + 1, 8, none⟩ = some (.int .i64 r.sc)) := Lib.hid fun y hy => ⟨(hy.cell (p := ⟨w.heap.size, 0, none⟩) lGB_3).trans GB_3_0, (hy.cell (p := ⟨w.heap.size, 1, none⟩) lGB_3).trans GB_3_1, (hy.cell (p := ⟨w.heap.size + 1, 0, none⟩) lRB_3).trans RB_3_0, (hy.cell (p := ⟨w.heap.size + 1, 1, none⟩) lRB_3).trans RB_3_1, (hy.cell (p := ⟨w.heap.size + 1, 2, none⟩) lRB_3).trans RB_3_2, (hy.cell (p := ⟨w.heap.size + 1, 3, none⟩) lRB_3).trans RB_3_3, (hy.cell (p := ⟨w.heap.size + 1, 4, none⟩) lRB_3).trans RB_3_4, (hy.cell (p := ⟨w.heap.size + 1, 5, none⟩) lRB_3).trans RB_3_5, (hy.cell (p := ⟨w.heap.size + 1, 6, none⟩) lRB_3).trans RB_3_6, (hy.cell (p := ⟨w.heap.size + 1, 7, none⟩) lRB_3).trans RB_3_7, (hy.cell (p := ⟨w.heap.size + 1, 8, none⟩) lRB_3).trans RB_3_8⟩
        refine wp_region_held_drew (S := (fun w' => w'.cell? ⟨w.heap.size, 0, none⟩ = some (.int .i64 o) ∧ w'.cell? ⟨w.heap.size, 1, none⟩ = some (.int .i64 h) ∧ w'.cell? ⟨w.heap.size + 1, 0, none⟩ = some (.slice AT tn tc) ∧ w'.cell? ⟨w.heap.size + 1, 1, none⟩ = some (.int .i64 r.a) ∧ w'.cell? ⟨w.heap.size + 1, 2, none⟩ = some (.int .i64 r.b) ∧ w'.cell? ⟨w.heap.size + 1, 3, none⟩ = some (.int .i64 r.nc) ∧ w'.cell? ⟨w.heap.size + 1, 4, none⟩ = some (.int .i64 r.dn) ∧ w'.cell? ⟨w.heap.size + 1, 5, none⟩ = some (.int .i64 r.br) ∧ w'.cell? ⟨w.heap.size + 1, 6, none⟩ = some (.int .i64 r.em) ∧ w'.cell? ⟨w.heap.size + 1, 7, none⟩ = some (.int .i64 r.pa) ∧ w'.cell? ⟨w.heap.size + 1, 8, none⟩ = some (.int .i64 r.sc))) (by kernel_rfl) (HS.out _ (Below.refl _ _).drew) (fun hHeld => ?_)
        have hT0 : Below x3.heap.size x3 x3.drew := (Below.refl _ _).drew
        generalize hdr : x3.drew = y3v0 at *
        clear hdr
        refine tkH 0 ⟨some 55, _, _, _, _, _⟩ ?_ rfl ?_ (by assumption) ?_
        rotate_left
        · (intro w hSw; (try dsimp only at hSw); go_simp; all_goals with_reducible rfl)
        try simp only [Act.put, sA, sB, sC]
        refine tkH 1 ⟨some 56, _, _, _, _, _⟩ ?_ rfl ?_ (by assumption) ?_
        rotate_left
        · (intro w hSw; (try dsimp only at hSw); go_simp; all_goals with_reducible rfl)
        try simp only [Act.put, sA, sB, sC]
        refine tkH 2 ⟨some 57, _, _, _, _, _⟩ ?_ rfl ?_ (by assumption) ?_
        rotate_left
        · (intro w hSw; (try dsimp only at hSw); go_simp; all_goals with_reducible rfl)
        try simp only [Act.put, sA, sB, sC]
        refine tkH 3 ⟨some 58, _, _, _, _, _⟩ ?_ rfl ?_ (by assumption) ?_
        rotate_left
        · (intro w hSw; (try dsimp only at hSw); go_simp; (try simp only [e1, e2]); all_goals with_reducible rfl)
        try simp only [Act.put, sA, sB, sC]
        refine tkH 6 ⟨some 61, _, _, _, _, _⟩ ?_ rfl ?_ (by assumption) ?_
        rotate_left
        · (intro w hSw; (try dsimp only at hSw); go_simp; all_goals with_reducible rfl)
        try simp only [Act.put, sA, sB, sC]
        refine tkH 7 ⟨some 62, _, _, _, _, _⟩ ?_ rfl ?_ (by assumption) ?_
        rotate_left
        · (intro w hSw; (try dsimp only at hSw); go_simp; all_goals with_reducible rfl)
        try simp only [Act.put, sA, sB, sC]
        refine wpAnyH_ready (rs := [4]) (by kernel_rfl) (by simp) ?_
        refine AllReadyH.cons rfl (fun K hK => ?_) (AllReadyH.nil)
        go_simp
        refine (denB o h s hi dx dv _ k1 k2 k3 k4 k7 h0 h9 hdx hdv).mono ?_
        rintro e y3v1 ⟨rfl, hby3v0⟩
        have hT1 : Below x3.heap.size x3 y3v1 := hT0.trans (hby3v0.mono hT0.size)
        clear hby3v0
        go_wp2_with fail
        refine hK.out _ _ (HS.out _ hT1) (fun hHeld => ?_)
        clear hK K
        try simp only [Act.put, sA, sB, sC]
        refine tkH 5 ⟨some 60, _, _, _, _, _⟩ ?_ rfl ?_ (by assumption) ?_
        rotate_left
        · (intro w hSw; (try dsimp only at hSw); go_simp; all_goals with_reducible rfl)
        try simp only [Act.put, sA, sB, sC]
        refine tkH 8 ⟨some 63, _, _, _, _, _⟩ ?_ rfl ?_ (by assumption) ?_
        rotate_left
        · (intro w hSw; (try dsimp only at hSw); go_simp; all_goals with_reducible rfl)
        try simp only [Act.put, sA, sB, sC]
        refine wpAnyH_done (by kernel_rfl) ?_ _
        have hc4 : Below x3.heap.size x3 y3v1 := hT1
        have hB4 : Below w.heap.size w y3v1 := hB3.trans (hc4.mono hB3.size)
        have zu4 := hB4.size
        replace HOW := Lib.hid (HOW.out.below hc4)
        replace GB := Lib.hid (GB.out.below hc4)
        replace RB := Lib.hid (RB.out.below hc4)
        clear GB_3_0 GB_3_1 lGB_3 nGB_3 mGB_3 RB_3_0 RB_3_1 RB_3_2 RB_3_3 RB_3_4 RB_3_5 RB_3_6 RB_3_7 RB_3_8 lRB_3 nRB_3 mRB_3 zz3
        clear HS hHeld hT0 hT1 hB3 zu3
        obtain ⟨GB_4_0, GB_4_1⟩ := b2 GB.out
        have lGB_4 := GB.out.lt
        have nGB_4 : y3v1.heap.size ≠ w.heap.size := by omega
        have mGB_4 : w.heap.size ≠ y3v1.heap.size := by omega
        obtain ⟨RB_4_0, RB_4_1, RB_4_2, RB_4_3, RB_4_4, RB_4_5, RB_4_6, RB_4_7, RB_4_8⟩ := b9 RB.out
        have lRB_4 := RB.out.lt
        have nRB_4 : y3v1.heap.size ≠ w.heap.size + 1 := by omega
        have mRB_4 : w.heap.size + 1 ≠ y3v1.heap.size := by omega
        by_cases g3 : r.dn < dv
        · have G3 := Lib.hid g3
          go_wp2_with (at_builtin; refine wpList_append_slG rfl _ _ 42 rfl (w.heap.size + 2) 3 i0 (.int .i64 0) 1 8 Try.underlying42 HI.out HZ0.out HZ1.out HZ2.out rfl (by decide) (.slice A3 1 c3) 1 (rowsV inV [3]) rfl (own_belowG HOW.out ((Below.refl _ _).alloc (Nat.le_refl _) _) (Nat.le_refl _)) (some ⟨y3v1.heap.size, 0, none⟩) 1 1 [.int .i64 4] rfl (fun h => by cases h) rfl (fun ad had j v hj => by cases had; rw [addNR, Nat.zero_add]; exact (BlkF.made (B := 0) y3v1 [.int .i64 4] 3 (Nat.zero_le _)).at' j v hj) (by intro v hv; simp at hv; subst hv; rfl) (by unfold maxLen; omega) (by omega) (by simp; omega) ?_)
          intro v5 x5 hown5 hgrow5 hblk5
          have hN5 : Below (w.heap.size + 2) y3v1 x5 := ((Below.refl (w.heap.size + 2) y3v1).alloc (by omega) _).grown hgrow5 (by simp; omega) (fun r hr => (own_blockG HOW.out r hr).1)
          obtain ⟨A5, c5, hv5, hS5, _, _, _, _⟩ := SlRows_own (f := inV) (n := 1) (L := [3, 4]) (fun _ => rfl) hown5
          replace hv5 : v5 = .slice A5 2 c5 := hv5
          subst hv5
          replace HOW : Hid (OwR (w.heap.size + 2) (.slice A5 2 c5) 2 (rowsV inV [3, 4]) x5) := Lib.hid hown5
          replace GB := Lib.hid (GB.out.belowN hN5 (by omega))
          replace RB := Lib.hid (RB.out.belowN hN5 (by omega))
          have hB5 : Below w.heap.size w x5 := hB4.trans (hN5.mono (by omega))
          have zu5 := hB5.size
          have zz5 := RB.out.lt
          clear hown5 hgrow5 hblk5 hN5 hS5 hB4 zu4 GB_4_0 GB_4_1 lGB_4 nGB_4 mGB_4 RB_4_0 RB_4_1 RB_4_2 RB_4_3 RB_4_4 RB_4_5 RB_4_6 RB_4_7 RB_4_8 lRB_4 nRB_4 mRB_4
          obtain ⟨GB_5_0, GB_5_1⟩ := b2 GB.out
          have lGB_5 := GB.out.lt
          have nGB_5 : x5.heap.size ≠ w.heap.size := by omega
          have mGB_5 : w.heap.size ≠ x5.heap.size := by omega
          obtain ⟨RB_5_0, RB_5_1, RB_5_2, RB_5_3, RB_5_4, RB_5_5, RB_5_6, RB_5_7, RB_5_8⟩ := b9 RB.out
          have lRB_5 := RB.out.lt
          have nRB_5 : x5.heap.size ≠ w.heap.size + 1 := by omega
          have mRB_5 : w.heap.size + 1 ≠ x5.heap.size := by omega
          go_wp2
          go_ret
          have hQ : Hid (L = [3, 4]) := Lib.hid (by rw [← hL.out]; rw [hLL.out, if_neg (show ¬ o * lo < 1000 * r.a by have := G0.out; omega), if_neg (show ¬ 1000 * r.b < o * hi by have := G1.out; omega), if_pos (show r.nc < nv by have := G2.out; omega), if_pos (show r.dn < dv by have := G3.out; omega)]; rfl)
          obtain rfl := hQ.out
          obtain ⟨Az, cz, hvz, hSz, hgz, _, _, _⟩ := SlRows_own (f := inV) (n := 1) (L := [3, 4]) (fun _ => rfl) HOW.out
          injection hvz with hq _ _
          rw [← hq] at hSz hgz
          first | exact ⟨A5, ⟨c5, rfl⟩, hSz, (fun ad h => Nat.le_trans (by omega) (hgz ad h)), hB5⟩ | exact ⟨A5, c5, rfl, hSz, (fun ad h => Nat.le_trans (by omega) (hgz ad h)), hB5⟩
        · have G3 := Lib.hid g3
          go_wp2
          go_ret
          have hQ : Hid (L = [3]) := Lib.hid (by rw [← hL.out]; rw [hLL.out, if_neg (show ¬ o * lo < 1000 * r.a by have := G0.out; omega), if_neg (show ¬ 1000 * r.b < o * hi by have := G1.out; omega), if_pos (show r.nc < nv by have := G2.out; omega), if_neg (show ¬ r.dn < dv by have := G3.out; omega)]; rfl)
          obtain rfl := hQ.out
          obtain ⟨Az, cz, hvz, hSz, hgz, _, _, _⟩ := SlRows_own (f := inV) (n := 1) (L := [3]) (fun _ => rfl) HOW.out
          injection hvz with hq _ _
          rw [← hq] at hSz hgz
          first | exact ⟨A3, ⟨c3, rfl⟩, hSz, (fun ad h => Nat.le_trans (by omega) (hgz ad h)), hB4⟩ | exact ⟨A3, c3, rfl, hSz, (fun ad h => Nat.le_trans (by omega) (hgz ad h)), hB4⟩
      · have G2 := Lib.hid g2
        go_upto_region 8 with (fail)
        have HS : Hid (∀ y, Below y1v1.heap.size y1v1 y → y.cell? ⟨w.heap.size, 0, none⟩ = some (.int .i64 o) ∧ y.cell? ⟨w.heap.size, 1, none⟩ = some (.int .i64 h) ∧ y.cell? ⟨w.heap.size + 1, 0, none⟩ = some (.slice AT tn tc) ∧ y.cell? ⟨w.heap.size + 1, 1, none⟩ = some (.int .i64 r.a) ∧ y.cell? ⟨w.heap.size + 1, 2, none⟩ = some (.int .i64 r.b) ∧ y.cell? ⟨w.heap.size + 1, 3, none⟩ = some (.int .i64 r.nc) ∧ y.cell? ⟨w.heap.size + 1, 4, none⟩ = some (.int .i64 r.dn) ∧ y.cell? ⟨w.heap.size + 1, 5, none⟩ = some (.int .i64 r.br) ∧ y.cell? ⟨w.heap.size + 1, 6, none⟩ = some (.int .i64 r.em) ∧ y.cell? ⟨w.heap.size + 1, 7, none⟩ = some (.int .i64 r.pa) ∧ y.cell? ⟨w.heap.size + 1, 8, none⟩ = some (.int .i64 r.sc)) := Lib.hid fun y hy => ⟨(hy.cell (p := ⟨w.heap.size, 0, none⟩) lGB_2).trans GB_2_0, (hy.cell (p := ⟨w.heap.size, 1, none⟩) lGB_2).trans GB_2_1, (hy.cell (p := ⟨w.heap.size + 1, 0, none⟩) lRB_2).trans RB_2_0, (hy.cell (p := ⟨w.heap.size + 1, 1, none⟩) lRB_2).trans RB_2_1, (hy.cell (p := ⟨w.heap.size + 1, 2, none⟩) lRB_2).trans RB_2_2, (hy.cell (p := ⟨w.heap.size + 1, 3, none⟩) lRB_2).trans RB_2_3, (hy.cell (p := ⟨w.heap.size + 1, 4, none⟩) lRB_2).trans RB_2_4, (hy.cell (p := ⟨w.heap.size + 1, 5, none⟩) lRB_2).trans RB_2_5, (hy.cell (p := ⟨w.heap.size + 1, 6, none⟩) lRB_2).trans RB_2_6, (hy.cell (p := ⟨w.heap.size + 1, 7, none⟩) lRB_2).trans RB_2_7, (hy.cell (p := ⟨w.heap.size + 1, 8, none⟩) lRB_2).trans RB_2_8⟩
        refine wp_region_held_drew (S := (fun w' => w'.cell? ⟨w.heap.size, 0, none⟩ = some (.int .i64 o) ∧ w'.cell? ⟨w.heap.size, 1, none⟩ = some (.int .i64 h) ∧ w'.cell? ⟨w.heap.size + 1, 0, none⟩ = some (.slice AT tn tc) ∧ w'.cell? ⟨w.heap.size + 1, 1, none⟩ = some (.int .i64 r.a) ∧ w'.cell? ⟨w.heap.size + 1, 2, none⟩ = some (.int .i64 r.b) ∧ w'.cell? ⟨w.heap.size + 1, 3, none⟩ = some (.int .i64 r.nc) ∧ w'.cell? ⟨w.heap.size + 1, 4, none⟩ = some (.int .i64 r.dn) ∧ w'.cell? ⟨w.heap.size + 1, 5, none⟩ = some (.int .i64 r.br) ∧ w'.cell? ⟨w.heap.size + 1, 6, none⟩ = some (.int .i64 r.em) ∧ w'.cell? ⟨w.heap.size + 1, 7, none⟩ = some (.int .i64 r.pa) ∧ w'.cell? ⟨w.heap.size + 1, 8, none⟩ = some (.int .i64 r.sc))) (by kernel_rfl) (HS.out _ (Below.refl _ _).drew) (fun hHeld => ?_)
        have hT0 : Below y1v1.heap.size y1v1 y1v1.drew := (Below.refl _ _).drew
        generalize hdr : y1v1.drew = y2v0 at *
        clear hdr
        refine tkH 0 ⟨some 55, _, _, _, _, _⟩ ?_ rfl ?_ (by assumption) ?_
        rotate_left
        · (intro w hSw; (try dsimp only at hSw); go_simp; all_goals with_reducible rfl)
        try simp only [Act.put, sA, sB, sC]
        refine tkH 1 ⟨some 56, _, _, _, _, _⟩ ?_ rfl ?_ (by assumption) ?_
        rotate_left
        · (intro w hSw; (try dsimp only at hSw); go_simp; all_goals with_reducible rfl)
        try simp only [Act.put, sA, sB, sC]
        refine tkH 2 ⟨some 57, _, _, _, _, _⟩ ?_ rfl ?_ (by assumption) ?_
        rotate_left
        · (intro w hSw; (try dsimp only at hSw); go_simp; all_goals with_reducible rfl)
        try simp only [Act.put, sA, sB, sC]
        refine tkH 3 ⟨some 58, _, _, _, _, _⟩ ?_ rfl ?_ (by assumption) ?_
        rotate_left
        · (intro w hSw; (try dsimp only at hSw); go_simp; (try simp only [e1, e2]); all_goals with_reducible rfl)
        try simp only [Act.put, sA, sB, sC]
        refine tkH 6 ⟨some 61, _, _, _, _, _⟩ ?_ rfl ?_ (by assumption) ?_
        rotate_left
        · (intro w hSw; (try dsimp only at hSw); go_simp; all_goals with_reducible rfl)
        try simp only [Act.put, sA, sB, sC]
        refine tkH 7 ⟨some 62, _, _, _, _, _⟩ ?_ rfl ?_ (by assumption) ?_
        rotate_left
        · (intro w hSw; (try dsimp only at hSw); go_simp; all_goals with_reducible rfl)
        try simp only [Act.put, sA, sB, sC]
        refine wpAnyH_ready (rs := [4]) (by kernel_rfl) (by simp) ?_
        refine AllReadyH.cons rfl (fun K hK => ?_) (AllReadyH.nil)
        go_simp
        refine (denB o h s hi dx dv _ k1 k2 k3 k4 k7 h0 h9 hdx hdv).mono ?_
        rintro e y2v1 ⟨rfl, hby2v0⟩
        have hT1 : Below y1v1.heap.size y1v1 y2v1 := hT0.trans (hby2v0.mono hT0.size)
        clear hby2v0
        go_wp2_with fail
        refine hK.out _ _ (HS.out _ hT1) (fun hHeld => ?_)
        clear hK K
        try simp only [Act.put, sA, sB, sC]
        refine tkH 5 ⟨some 60, _, _, _, _, _⟩ ?_ rfl ?_ (by assumption) ?_
        rotate_left
        · (intro w hSw; (try dsimp only at hSw); go_simp; all_goals with_reducible rfl)
        try simp only [Act.put, sA, sB, sC]
        refine tkH 8 ⟨some 63, _, _, _, _, _⟩ ?_ rfl ?_ (by assumption) ?_
        rotate_left
        · (intro w hSw; (try dsimp only at hSw); go_simp; all_goals with_reducible rfl)
        try simp only [Act.put, sA, sB, sC]
        refine wpAnyH_done (by kernel_rfl) ?_ _
        have hc3 : Below y1v1.heap.size y1v1 y2v1 := hT1
        have hB3 : Below w.heap.size w y2v1 := hB2.trans (hc3.mono hB2.size)
        have zu3 := hB3.size
        replace HOW := Lib.hid (HOW.out.below hc3)
        replace GB := Lib.hid (GB.out.below hc3)
        replace RB := Lib.hid (RB.out.below hc3)
        clear GB_2_0 GB_2_1 lGB_2 nGB_2 mGB_2 RB_2_0 RB_2_1 RB_2_2 RB_2_3 RB_2_4 RB_2_5 RB_2_6 RB_2_7 RB_2_8 lRB_2 nRB_2 mRB_2
        clear HS hHeld hT0 hT1 hB2 zu2 hc2
        obtain ⟨GB_3_0, GB_3_1⟩ := b2 GB.out
        have lGB_3 := GB.out.lt
        have nGB_3 : y2v1.heap.size ≠ w.heap.size := by omega
        have mGB_3 : w.heap.size ≠ y2v1.heap.size := by omega
        obtain ⟨RB_3_0, RB_3_1, RB_3_2, RB_3_3, RB_3_4, RB_3_5, RB_3_6, RB_3_7, RB_3_8⟩ := b9 RB.out
        have lRB_3 := RB.out.lt
        have nRB_3 : y2v1.heap.size ≠ w.heap.size + 1 := by omega
        have mRB_3 : w.heap.size + 1 ≠ y2v1.heap.size := by omega
        by_cases g3 : r.dn < dv
        · have G3 := Lib.hid g3
          go_wp2_with (at_builtin; refine wpList_append_slG rfl _ _ 42 rfl (w.heap.size + 2) 3 i0 (.int .i64 0) 1 8 Try.underlying42 HI.out HZ0.out HZ1.out HZ2.out rfl (by decide) (.slice none 0 0) 0 [] rfl (own_belowG HOW.out ((Below.refl _ _).alloc (Nat.le_refl _) _) (Nat.le_refl _)) (some ⟨y2v1.heap.size, 0, none⟩) 1 1 [.int .i64 4] rfl (fun h => by cases h) rfl (fun ad had j v hj => by cases had; rw [addNR, Nat.zero_add]; exact (BlkF.made (B := 0) y2v1 [.int .i64 4] 3 (Nat.zero_le _)).at' j v hj) (by intro v hv; simp at hv; subst hv; rfl) (by unfold maxLen; omega) (by omega) (by simp; omega) ?_)
          intro v4 x4 hown4 hgrow4 hblk4
          have hN4 : Below (w.heap.size + 2) y2v1 x4 := ((Below.refl (w.heap.size + 2) y2v1).alloc (by omega) _).grown hgrow4 (by simp; omega) (fun r hr => (own_blockG HOW.out r hr).1)
          obtain ⟨A4, c4, hv4, hS4, _, _, _, _⟩ := SlRows_own (f := inV) (n := 1) (L := [4]) (fun _ => rfl) hown4
          replace hv4 : v4 = .slice A4 1 c4 := hv4
          subst hv4
          replace HOW : Hid (OwR (w.heap.size + 2) (.slice A4 1 c4) 1 (rowsV inV [4]) x4) := Lib.hid hown4
          replace GB := Lib.hid (GB.out.belowN hN4 (by omega))
          replace RB := Lib.hid (RB.out.belowN hN4 (by omega))
          have hB4 : Below w.heap.size w x4 := hB3.trans (hN4.mono (by omega))
          have zu4 := hB4.size
          have zz4 := RB.out.lt
          clear hown4 hgrow4 hblk4 hN4 hS4 hB3 zu3 GB_3_0 GB_3_1 lGB_3 nGB_3 mGB_3 RB_3_0 RB_3_1 RB_3_2 RB_3_3 RB_3_4 RB_3_5 RB_3_6 RB_3_7 RB_3_8 lRB_3 nRB_3 mRB_3
          obtain ⟨GB_4_0, GB_4_1⟩ := b2 GB.out
          have lGB_4 := GB.out.lt
          have nGB_4 : x4.heap.size ≠ w.heap.size := by omega
          have mGB_4 : w.heap.size ≠ x4.heap.size := by omega
          obtain ⟨RB_4_0, RB_4_1, RB_4_2, RB_4_3, RB_4_4, RB_4_5, RB_4_6, RB_4_7, RB_4_8⟩ := b9 RB.out
          have lRB_4 := RB.out.lt
          have nRB_4 : x4.heap.size ≠ w.heap.size + 1 := by omega
          have mRB_4 : w.heap.size + 1 ≠ x4.heap.size := by omega
          go_wp2
          go_ret
          have hQ : Hid (L = [4]) := Lib.hid (by rw [← hL.out]; rw [hLL.out, if_neg (show ¬ o * lo < 1000 * r.a by have := G0.out; omega), if_neg (show ¬ 1000 * r.b < o * hi by have := G1.out; omega), if_neg (show ¬ r.nc < nv by have := G2.out; omega), if_pos (show r.dn < dv by have := G3.out; omega)]; rfl)
          obtain rfl := hQ.out
          obtain ⟨Az, cz, hvz, hSz, hgz, _, _, _⟩ := SlRows_own (f := inV) (n := 1) (L := [4]) (fun _ => rfl) HOW.out
          injection hvz with hq _ _
          rw [← hq] at hSz hgz
          first | exact ⟨A4, ⟨c4, rfl⟩, hSz, (fun ad h => Nat.le_trans (by omega) (hgz ad h)), hB4⟩ | exact ⟨A4, c4, rfl, hSz, (fun ad h => Nat.le_trans (by omega) (hgz ad h)), hB4⟩
        · have G3 := Lib.hid g3
          go_wp2
          go_ret
          have hQ : Hid (L = []) := Lib.hid (by rw [← hL.out]; rw [hLL.out, if_neg (show ¬ o * lo < 1000 * r.a by have := G0.out; omega), if_neg (show ¬ 1000 * r.b < o * hi by have := G1.out; omega), if_neg (show ¬ r.nc < nv by have := G2.out; omega), if_neg (show ¬ r.dn < dv by have := G3.out; omega)]; rfl)
          obtain rfl := hQ.out
          first | exact ⟨none, ⟨0, rfl⟩, Or.inl rfl, (fun ad h => by cases h), hB3⟩ | exact ⟨none, 0, rfl, Or.inl rfl, (fun ad h => by cases h), hB3⟩
end Go.Proofs.Ytijdphlejokijaa
