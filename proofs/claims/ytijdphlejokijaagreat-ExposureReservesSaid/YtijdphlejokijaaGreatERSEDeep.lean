import Derived.Test.YtijdphlejokijaaGreatERSEPoor
import Derived.Test.YtijdphlejokijaaGreatERSWeighD
import Derived.Outline
namespace Go.Proofs.YtijdphlejokijaaGreat
open Go.ChangeShapes Go.WideShapes Go.ChangeAt Go.RowKit
set_option linter.unusedVariables false
set_option linter.unusedSimpArgs false
attribute [local go_sem ↓] Go.wp_at_zero Go.wp_at_succ
theorem _root_.Go.World.ownsRow.below' {w w' : World} {base : Nat} {e : TypeId} {s n : Nat} {v : Value} {xs : List Value} (h : w.ownsRow base e s v n xs) (hb : Below w.heap.size w w') : w'.ownsRow base e s v n xs := own_belowG h hb (Nat.le_refl _)
def narV (h s d : Int) : Int := above (((1000 - h) * (s + d) + 1000 - 1) / 1000) s
def denV (o h s d : Int) : Int := (wgt o h * (s + d) + 1013000 - 1) / 1013000
/-- What is broken. -/
def kndL (r : Ru) (o h s d : Int) : List Int := (if 1000 * r.b < o * (s + d) then [2] else []) ++ (if r.nc < narV h s d then [3] else []) ++ (if r.dn < denV o h s d then [4] else [])
theorem calls_world {P : Program} {f : FuncId} {args : Array Value} {w : World} {R : Ending → World → Prop} (S : World → Prop) (h : S w) (k : ∀ X, S X → Calls P f args X R) : Calls P f args w R := k w h
set_option maxRecDepth 100000 in
set_option maxHeartbeats 2000000 in
theorem add_is (kind : Int) (bk : Bool) (tb : Nat) (L : List Int) (v : Value) (N : Nat) (w : World) (hbv : Boxed w tb 42 v) (hrow : w.ownsRow N 3 1 v L.length (rowsV inV L)) (hN : N ≤ w.heap.size) (htN : tb < N) (hl : L.length ≤ 10) :
    Calls Tryz.prog 77 #[.int .i64 kind, .bool bk, .pointer (some ⟨tb, 0, none⟩)] w fun e w' => (∃ x, e = .returned x) ∧ (∃ v', Boxed w' tb 42 v' ∧ w'.ownsRow N 3 1 v' (L ++ if bk = true then [kind] else []).length (rowsV inV (L ++ if bk = true then [kind] else []))) ∧ Below tb w w' ∧ KeptO N tb w w' := by
  cases bk with
  | false =>
    go_enter Tryz.func77, Tryz.ntmps77
    go_wp2
    go_end0
    exact ⟨⟨_, rfl⟩, ⟨v, hbv, by simpa using hrow⟩, Below.refl _ _, KeptO.refl _ _ _⟩
  | true =>
    obtain ⟨i0, hi, hz0', hz1', hz2'⟩ := info_partsG infoIn
    have HI := Lib.hid hi
    have HZ0 := Lib.hid hz0'
    have HZ1 := Lib.hid hz1'
    have HZ2 := Lib.hid hz2'
    clear hi hz0' hz1' hz2'
    obtain ⟨A4, c4, rfl, hS4, _, _, _, _⟩ := SlRows_own (f := inV) (n := 1) (L := L) (fun _ => rfl) hrow
    obtain ⟨ll, hll⟩ : ∃ z, Hid (L.length = z) := ⟨_, Lib.hid rfl⟩
    rw [hll.out] at hrow hbv hl
    have s0 := hbv.cell
    have hlt := hbv.lt
    have hb1 : Below w.heap.size w (w.alloc (.cells #[.int .i64 kind] 3)) := (Below.refl _ _).alloc (Nat.le_refl _) _
    have Z5 := BlkF.made (B := w.heap.size) w [.int .i64 kind] 3 (Nat.le_refl _)
    have HOW := Lib.hid (hrow.below' hb1)
    have HBV := Lib.hid (hbv.below' hb1)
    have HSRC : Hid (∀ ad, (some ⟨w.heap.size, 0, none⟩ : Option Addr) = some ad → ∀ j u, [Value.int .i64 kind][j]? = some u → (w.alloc (.cells #[.int .i64 kind] 3)).cell? (ad.add j) = some u) := Lib.hid fun ad had j u hj => by cases had; rw [addNR, Nat.zero_add]; exact Z5.at' j u hj
    clear hS4 hrow Z5
    go_enter Tryz.func77, Tryz.ntmps77
    go_wp2_with (at_builtin; refine wpList_append_slG rfl _ _ 42 rfl N 3 i0 (.int .i64 0) 1 8 Tryz.underlying42 HI.out HZ0.out HZ1.out HZ2.out rfl (by decide) (.slice A4 ll c4) ll (rowsV inV L) rfl HOW.out (some ⟨w.heap.size, 0, none⟩) 1 1 [.int .i64 kind] rfl (fun h => by cases h) rfl HSRC.out (by intro v hv; simp at hv; subst hv; rfl) ?e1 ?e2 ?e3 ?_)
    case e1 => unfold maxLen; omega
    case e2 => omega
    case e3 => simp; omega
    intro rv u1 hown hgrow hblk
    obtain ⟨k1, k2, k3, k4, k5, k6⟩ := box_append HBV.out (by decide) HOW.out (by simp; omega) htN hown hgrow
    obtain ⟨lq, hlq⟩ : ∃ z, Hid ((L ++ [kind]).length = z) := ⟨_, Lib.hid rfl⟩
    obtain ⟨A5, c5, hrv, hS5, _, _, _, _⟩ := SlRows_own (f := inV) (n := 1) (L := L ++ [kind]) (fun _ => rfl) (by rw [rowsV_appG, List.length_append, hll.out]; exact hown)
    rw [hlq.out] at hrv
    subst hrv
    have hfz := k1.frozen
    have hcl := k1.cell
    have HP : Hid (∃ v', Boxed (u1.setCell ⟨tb, 0, none⟩ (.slice A5 lq c5)) tb 42 v' ∧ (u1.setCell ⟨tb, 0, none⟩ (.slice A5 lq c5)).ownsRow N 3 1 v' (L.length + 1) (rowsV inV (L ++ [kind]))) := Lib.hid ⟨_, k2, by rw [rowsV_appG, hll.out]; exact k3⟩
    have HQ := Lib.hid ((hb1.mono (show tb ≤ w.heap.size by omega)).trans k5)
    have HR := Lib.hid ((KeptO.of_below (t := tb) (hb1.mono hN)).trans k6)
    clear hown hgrow hblk k1 k2 k3 k4 k5 k6 hS5 HOW HBV HSRC s0
    go_wp2
    go_end0
    exact ⟨⟨_, rfl⟩, HP.out, HQ.out, HR.out⟩
set_option maxRecDepth 100000 in
set_option maxHeartbeats 4000000 in
theorem tooDeep_is (o h s d : Int) (r : Ru) (AT : Option Addr) (tn tc : Nat) (L : List Int) (w : World) (hg : Hid (gasE o h = 0)) (s0 : 400 ≤ s) (s1 : s ≤ 1100) (d0 : 0 ≤ d) (d1 : d ≤ 30000) (b0 : 1 ≤ r.b) (b1' : r.b ≤ 4000) (hL : Hid (kndL r o h s d = L)) :
    Calls Tryz.prog 53 #[.agg #[.int .i64 o, .int .i64 h], .int .i64 s, .int .i64 d, .agg #[.slice AT tn tc, .int .i64 r.a, .int .i64 r.b, .int .i64 r.nc, .int .i64 r.dn, .int .i64 r.br, .int .i64 r.em, .int .i64 r.pa, .int .i64 r.sc]] w fun e w' => ∃ A c, e = .returned (.slice A L.length c) ∧ SlRows inV 1 w' A L ∧ (∀ ad, A = some ad → w.heap.size ≤ ad.block) ∧ (A = none → c = 0) ∧ Below w.heap.size w w' := by
  obtain ⟨k1, k2, k3, k4, k7⟩ := gasE_o hg.out
  obtain ⟨q, hq⟩ : ∃ q, Hid (o * (s + d) = q) := ⟨_, Lib.hid rfl⟩
  obtain ⟨X, hX⟩ : ∃ X, Hid ((1000 - h) * (s + d) = X) := ⟨_, Lib.hid rfl⟩
  have hXb := ox_mul (show 0 ≤ 1000 - h by omega) (by omega) (show 0 ≤ s + d by omega) (show s + d ≤ 100000 by omega)
  have hXc : (1000 - h) * (s + d) ≤ 1000 * 31100 := Int.mul_le_mul (by omega) (by omega) (by omega) (by omega)
  rw [hX.out] at hXb hXc
  obtain ⟨eN, hN⟩ : ∃ z, Hid (narV h s d = z) := ⟨_, Lib.hid rfl⟩
  obtain ⟨eD, hD⟩ : ∃ z, Hid (denV o h s d = z) := ⟨_, Lib.hid rfl⟩
  have hz : (eqE o h s d != 0) = false := by
    unfold eqE
    rw [hg.out, rngE_t (inB_true s0 s1), rngE_t (inB_true d0 d1)]; rfl
  have hpa : Hid (paE o h (s + d) = 0) := Lib.hid (by unfold paE; rw [hg.out, rngE_t (inB_true (by omega) (by omega))]; rfl)
  have HEN : Hid (∀ w : World, Calls Tryz.prog 78 #[.agg #[.int .i64 o, .int .i64 h], .int .i64 s, .int .i64 d] w fun e w' => e = .returned (.tuple #[.agg #[.int .i64 (above (X / 1000) s), .int .i64 eN], .int .i64 0]) ∧ Below w.heap.size w w') := Lib.hid fun w => by
    have := EquivalentNarcotic_ok o h s d X w hz k1 k2 k3 k4 k7 s0 s1 d0 d1 hX (by omega) (by omega)
    rw [show above ((X + 1000 - 1) / 1000) s = eN by rw [← hN.out, ← hX.out]; rfl] at this
    exact this
  obtain ⟨d9, hd9⟩ : ∃ z, Hid (wgt o h * (s + d) / 1013000 = z) := ⟨_, Lib.hid rfl⟩
  have HEL : Hid (kndL r o h s d = (if 1000 * r.b < q then [2] else []) ++ (if r.nc < eN then [3] else []) ++ (if r.dn < eD then [4] else [])) := Lib.hid (by unfold kndL; rw [hq.out, hN.out, hD.out])
  rw [HEL.out] at hL
  clear HEL
  obtain ⟨a9, ha9⟩ : ∃ z, Hid (above (X / 1000) s = z) := ⟨_, Lib.hid rfl⟩
  rw [ha9.out] at HEN
  have ww : IntKind.i64.wrap (s + d) = s + d := IntWalk.i64_in _ (by omega)
  have wb : IntKind.i64.wrap (1000 * r.b) = 1000 * r.b := IntWalk.i64_in _ (by omega)
  clear hXb hXc hz
  go_enter Tryz.func53, Tryz.ntmps53
  go_wp2_with fail
  have Y0 := (BlkF.made (B := w.heap.size) w [.int .i64 o, .int .i64 h] 66 (Nat.le_refl _)).below ((Below.refl _ _).alloc (Nat.le_refl _) (.cells #[.slice AT tn tc, .int .i64 r.a, .int .i64 r.b, .int .i64 r.nc, .int .i64 r.dn, .int .i64 r.br, .int .i64 r.em, .int .i64 r.pa, .int .i64 r.sc] 30))
  have Y1 := BlkF.made (B := w.heap.size) (w.alloc (.cells #[.int .i64 o, .int .i64 h] 66)) [.slice AT tn tc, .int .i64 r.a, .int .i64 r.b, .int .i64 r.nc, .int .i64 r.dn, .int .i64 r.br, .int .i64 r.em, .int .i64 r.pa, .int .i64 r.sc] 30 (by simp)
  have hB0 : Below w.heap.size w ((w.alloc (.cells #[.int .i64 o, .int .i64 h] 66)).alloc (.cells #[.slice AT tn tc, .int .i64 r.a, .int .i64 r.b, .int .i64 r.nc, .int .i64 r.dn, .int .i64 r.br, .int .i64 r.em, .int .i64 r.pa, .int .i64 r.sc] 30)) := ((Below.refl _ _).alloc (Nat.le_refl _) _).alloc (by simp) _
  have htb0 := Boxed.new ((w.alloc (.cells #[.int .i64 o, .int .i64 h] 66)).alloc (.cells #[.slice AT tn tc, .int .i64 r.a, .int .i64 r.b, .int .i64 r.nc, .int .i64 r.dn, .int .i64 r.br, .int .i64 r.em, .int .i64 r.pa, .int .i64 r.sc] 30)) 42 (.slice none 0 0)
  simp only [World.size_alloc] at Y1 htb0
  have hBa : Below w.heap.size w (((w.alloc (.cells #[.int .i64 o, .int .i64 h] 66)).alloc (.cells #[.slice AT tn tc, .int .i64 r.a, .int .i64 r.b, .int .i64 r.nc, .int .i64 r.dn, .int .i64 r.br, .int .i64 r.em, .int .i64 r.pa, .int .i64 r.sc] 30)).alloc (.cells #[.slice none 0 0] 42)) := hB0.alloc (by simp; omega) _
  have Y0a := Y0.below ((Below.refl _ _).alloc (Nat.le_refl _) (.cells #[.slice none 0 0] 42))
  have Y1a := Y1.below ((Below.refl _ _).alloc (Nat.le_refl _) (.cells #[.slice none 0 0] 42))
  refine calls_world (fun X => Below w.heap.size w X ∧ BlkF X w.heap.size w.heap.size [.int .i64 o, .int .i64 h] ∧ BlkF X w.heap.size (w.heap.size + 1) [.slice AT tn tc, .int .i64 r.a, .int .i64 r.b, .int .i64 r.nc, .int .i64 r.dn, .int .i64 r.br, .int .i64 r.em, .int .i64 r.pa, .int .i64 r.sc] ∧ Boxed X (w.heap.size + 1 + 1) 42 (.slice none 0 0)) ⟨hBa, Y0a, Y1a, htb0⟩ (fun u0 hu0 => ?_)
  obtain ⟨hBu0, Z0, Z1, hbv⟩ := hu0
  clear Y0 Y1 hB0 htb0 hBa Y0a Y1a
  obtain ⟨tb, htb⟩ : ∃ z, w.heap.size + 1 + 1 = z := ⟨_, rfl⟩
  rw [htb] at hbv ⊢
  refine (HEN.out u0).mono ?_
  rintro e x1 ⟨rfl, hb1⟩
  replace Z0 := Z0.below hb1
  replace Z1 := Z1.below hb1
  replace hbv := hbv.below' hb1
  replace hBu0 := hBu0.trans (hb1.mono hBu0.size)
  have hx1 := hbv.lt
  obtain ⟨e0, e1⟩ := b2 Z0
  have l0 := Z0.lt
  clear hb1
  go_wp2_with fail
  have hb2 : Below x1.heap.size x1 (x1.alloc (.cells #[.int .i64 a9, .int .i64 eN] 62)) := (Below.refl _ _).alloc (Nat.le_refl _) _
  refine calls_world (fun X => Below x1.heap.size x1 X ∧ BlkF X x1.heap.size x1.heap.size [.int .i64 a9, .int .i64 eN]) ⟨hb2, BlkF.made (B := x1.heap.size) x1 [.int .i64 a9, .int .i64 eN] 62 (Nat.le_refl _)⟩ (fun u1 hu1 => ?_)
  obtain ⟨hbu1, Zn⟩ := hu1
  clear hb2 e0 e1 l0
  refine (Density_ok o h (s + d) d9 eD u1 hpa hd9 (Lib.hid (by rw [← hD.out]; rfl))).mono ?_
  rintro e x2 ⟨rfl, hb2⟩
  have hb12 : Below x1.heap.size x1 x2 := hbu1.trans (hb2.mono hbu1.size)
  replace Z0 := Z0.below hb12
  replace Z1 := Z1.below hb12
  replace hbv := hbv.below' hb12
  replace hBu0 := hBu0.trans (hb12.mono hBu0.size)
  replace Zn := Zn.below hb2
  obtain ⟨tn1, htn1⟩ : ∃ z, x1.heap.size = z := ⟨_, rfl⟩
  rw [htn1] at Zn ⊢
  have hx2 := Zn.lt
  clear hb2 hb12 hbu1
  go_upto_region 5 with (fail)
  refine ex_world (fun u => Below x2.heap.size x2 u ∧ BlkF u x2.heap.size x2.heap.size [.int .i64 d9, .int .i64 eD]) ⟨(Below.refl _ _).alloc (Nat.le_refl _) _, BlkF.made (B := x2.heap.size) x2 [.int .i64 d9, .int .i64 eD] 62 (Nat.le_refl _)⟩ (fun u hu => ?_)
  obtain ⟨hbu, Zd⟩ := hu
  replace Z0 := Z0.below hbu
  replace Z1 := Z1.below hbu
  replace Zn := Zn.below hbu
  replace hbv := hbv.below' hbu
  have hB0 := hBu0.trans (hbu.mono hBu0.size)
  obtain ⟨td1, htd1⟩ : ∃ z, x2.heap.size = z := ⟨_, rfl⟩
  rw [htd1] at Zd ⊢
  have l0 := Z0.lt
  have l1 := Z1.lt
  obtain ⟨e0, e1⟩ := b2 Z0
  obtain ⟨f0, f1, f2, f3, f4, f5, f6, f7, f8⟩ := b9 Z1
  have fn1 := (b2 Zn).2
  have fd1 := (b2 Zd).2
  have ln := Zn.lt
  have ld := Zd.lt
  obtain ⟨N, hNN⟩ : ∃ z, u.heap.size = z := ⟨_, rfl⟩
  have hNu : N ≤ u.heap.size := by omega
  have htN : tb < N := by omega
  have hNw : w.heap.size ≤ N := by have := hB0.size; omega
  have hrow : u.ownsRow N 3 1 (.slice none 0 0) ([] : List Int).length (rowsV inV []) := ⟨rfl, .inl ⟨rfl, rfl⟩⟩
  have HS : Hid (∀ y, Below u.heap.size u y → y.cell? ⟨w.heap.size, 0, none⟩ = some (.int .i64 o) ∧ y.cell? ⟨w.heap.size, 1, none⟩ = some (.int .i64 h) ∧ y.cell? ⟨w.heap.size + 1, 2, none⟩ = some (.int .i64 r.b)) := Lib.hid fun y hy => ⟨(hy.cell (p := ⟨w.heap.size, 0, none⟩) l0).trans e0, (hy.cell (p := ⟨w.heap.size, 1, none⟩) l0).trans e1, (hy.cell (p := ⟨w.heap.size + 1, 2, none⟩) l1).trans f2⟩
  clear e0 e1 f0 f1 f2 f5 f6 f7 f8 Z0 Z1 Zn Zd hbu hBu0 HEN
  refine wp_region_held_drew (S := (fun w' => w'.cell? ⟨w.heap.size, 0, none⟩ = some (.int .i64 o) ∧ w'.cell? ⟨w.heap.size, 1, none⟩ = some (.int .i64 h) ∧ w'.cell? ⟨w.heap.size + 1, 2, none⟩ = some (.int .i64 r.b))) (by kernel_rfl) (HS.out _ (Below.refl _ _).drew) (fun hHeld => ?_)
  have hT0 : Below u.heap.size u u.drew := (Below.refl _ _).drew
  generalize hdr : u.drew = v0 at *
  clear hdr
  refine tkH 0 ⟨some 31, _, _, _, _, _⟩ ?_ rfl ?_ (by assumption) ?_
  rotate_left
  · (intro w hSw; (try dsimp only at hSw); go_simp; all_goals with_reducible rfl)
  try simp only [Act.put, sA, sB, sC]
  refine tkH 1 ⟨some 32, _, _, _, _, _⟩ ?_ rfl ?_ (by assumption) ?_
  rotate_left
  · (intro w hSw; (try dsimp only at hSw); go_simp; all_goals with_reducible rfl)
  try simp only [Act.put, sA, sB, sC]
  refine tkH 2 ⟨some 33, _, _, _, _, _⟩ ?_ rfl ?_ (by assumption) ?_
  rotate_left
  · (intro w hSw; (try dsimp only at hSw); go_simp; all_goals with_reducible rfl)
  try simp only [Act.put, sA, sB, sC]
  refine tkH 3 ⟨some 34, _, _, _, _, _⟩ ?_ rfl ?_ (by assumption) ?_
  rotate_left
  · (intro w hSw; (try dsimp only at hSw); go_simp; all_goals with_reducible rfl)
  try simp only [Act.put, sA, sB, sC]
  refine tkH 4 ⟨some 35, _, _, _, _, _⟩ ?_ rfl ?_ (by assumption) ?_
  rotate_left
  · (intro w hSw; (try dsimp only at hSw); go_simp; all_goals with_reducible rfl)
  try simp only [Act.put, sA, sB, sC]
  refine tkH 6 ⟨some 37, _, _, _, _, _⟩ ?_ rfl ?_ (by assumption) ?_
  rotate_left
  · (intro w hSw; (try dsimp only at hSw); go_simp; all_goals with_reducible rfl)
  try simp only [Act.put, sA, sB, sC]
  refine tkH 7 ⟨some 38, _, _, _, _, _⟩ ?_ rfl ?_ (by assumption) ?_
  rotate_left
  · (intro w hSw; (try dsimp only at hSw); go_simp; all_goals with_reducible rfl)
  try simp only [Act.put, sA, sB, sC]
  refine tkH 8 ⟨some 39, _, _, _, _, _⟩ ?_ rfl ?_ (by assumption) ?_
  rotate_left
  · (intro w hSw; (try dsimp only at hSw); go_simp; all_goals with_reducible rfl)
  try simp only [Act.put, sA, sB, sC]
  refine tkH 9 ⟨some 40, _, _, _, _, _⟩ ?_ rfl ?_ (by assumption) ?_
  rotate_left
  · (intro w hSw; (try dsimp only at hSw); go_simp; all_goals with_reducible rfl)
  try simp only [Act.put, sA, sB, sC]
  refine wpAnyH_ready (rs := [5]) (by kernel_rfl) (by simp) ?_
  refine AllReadyH.cons rfl (fun K hK => ?_) (AllReadyH.nil)
  go_simp
  refine (oxygenAt_is o h (s + d) q _ hg (by omega) (by omega) hq).mono ?_
  rintro e v1 ⟨rfl, hbv0⟩
  have hT1 : Below u.heap.size u v1 := hT0.trans (hbv0.mono hT0.size)
  clear hbv0
  go_wp2_with fail
  refine hK.out _ _ (HS.out _ hT1) (fun hHeld => ?_)
  clear hK K
  try simp only [Act.put, sA, sB, sC]
  refine tkH 10 ⟨some 41, _, _, _, _, _⟩ ?_ rfl ?_ (by assumption) ?_
  rotate_left
  · (intro w hSw; (try dsimp only at hSw); go_simp; all_goals with_reducible rfl)
  try simp only [Act.put, sA, sB, sC]
  refine wpAnyH_ready (rs := [11]) (by kernel_rfl) (by simp) ?_
  refine AllReadyH.cons rfl (fun K hK => ?_) (AllReadyH.nil)
  rw [if_pos (by kernel_rfl)]
  go_wp2_with fail
  refine (add_is 2 _ tb [] _ N v1 (hbv.below' hT1) (hrow.below' hT1) (Nat.le_trans hNu hT1.size) htN (by simp)).mono ?_
  rintro e v2 ⟨⟨zz, rfl⟩, ⟨va, hbva, hrowa⟩, hbla, hkoa⟩
  have hS9 : v2.cell? ⟨w.heap.size, 0, none⟩ = some (.int .i64 o) ∧ v2.cell? ⟨w.heap.size, 1, none⟩ = some (.int .i64 h) ∧ v2.cell? ⟨w.heap.size + 1, 2, none⟩ = some (.int .i64 r.b) := by
    obtain ⟨h0, h1, h2⟩ := HS.out _ hT1
    exact ⟨(hkoa.cell (by omega) (by omega) 0).trans h0, (hkoa.cell (by omega) (by omega) 1).trans h1, (hkoa.cell (by omega) (by omega) 2).trans h2⟩
  go_wp2_with fail
  refine hK.out _ _ hS9 (fun hHeld => ?_)
  clear hK K hS9
  try simp only [Act.put, sA, sB, sC]
  have hW1 : KeptO N tb u v2 := (KeptO.of_below (hT1.mono hNu)).trans hkoa
  have hW2 : Below tb u v2 := (hT1.mono (by omega)).trans hbla
  refine wpAnyH_done (by kernel_rfl) ?_ _
  obtain ⟨z, rfl⟩ : ∃ z, z = v2 := ⟨_, rfl⟩
  clear hHeld HS
  have g3 : z.cell? ⟨w.heap.size + 1, 3, none⟩ = some (.int .i64 r.nc) := (hW1.cell (by omega) (by omega) 3).trans f3
  have g4 : z.cell? ⟨w.heap.size + 1, 4, none⟩ = some (.int .i64 r.dn) := (hW1.cell (by omega) (by omega) 4).trans f4
  have gn1 : z.cell? ⟨tn1, 1, none⟩ = some (.int .i64 eN) := (hW1.cell (by omega) (by omega) 1).trans fn1
  have gd1 : z.cell? ⟨td1, 1, none⟩ = some (.int .i64 eD) := (hW1.cell (by omega) (by omega) 1).trans fd1
  have hsz1 := hW1.size
  go_wp2_with fail
  refine (add_is 3 _ tb _ _ N z hbva hrowa (by omega) htN (by split <;> simp)).mono ?_
  rintro e z2 ⟨⟨zz2, rfl⟩, ⟨vb, hbvb, hrowb⟩, hblb, hkob⟩
  have g4' : z2.cell? ⟨w.heap.size + 1, 4, none⟩ = some (.int .i64 r.dn) := (hkob.cell (by omega) (by omega) 4).trans g4
  have gd1' : z2.cell? ⟨td1, 1, none⟩ = some (.int .i64 eD) := (hkob.cell (by omega) (by omega) 1).trans gd1
  have hsz2 := hkob.size
  go_wp2_with fail
  refine (add_is 4 _ tb _ _ N z2 hbvb hrowb (by omega) htN (by split <;> split <;> simp)).mono ?_
  rintro e z3 ⟨⟨zz3, rfl⟩, ⟨vc, hbvc, hrowc⟩, hblc, hkoc⟩
  have HL : Hid (([] ++ (if decide (1000 * r.b < q) = true then [2] else []) ++ (if decide (r.nc < eN) = true then [3] else []) ++ (if decide (r.dn < eD) = true then [4] else []) : List Int) = L) := Lib.hid (by rw [← hL.out]; simp [kndL])
  try rw [HL.out] at hrowc
  obtain ⟨A9, c9, rfl, hS9, hge9, hnil9, _, _⟩ := SlRows_own (f := inV) (n := 1) (L := L) (fun _ => rfl) hrowc
  have s9 := hbvc.cell
  have hB9 : Below w.heap.size w z3 := (hB0.trans (hW2.mono (by omega))).trans ((hblb.mono (by omega)).trans (hblc.mono (by omega)))
  obtain ⟨n9, hn9⟩ : ∃ z, Hid (L.length = z) := ⟨_, Lib.hid rfl⟩
  rw [hn9.out] at s9
  go_wp2
  go_ret
  exact ⟨A9, c9, by rw [hn9.out]; rfl, hS9, fun ad had => Nat.le_trans hNw (hge9 ad had), hnil9, hB9⟩
set_option maxRecDepth 100000 in
theorem deepC_is (o h s : Int) (i : Nat) (r : Ru) (AT : Option Addr) (tn tc p1 p2 p3 : Nat) (x : Bool) (w : World) (hg : Hid (gasE o h = 0)) (s0 : 400 ≤ s) (s1 : s ≤ 1100) (hi : i ≤ 30000) (b0 : 1 ≤ r.b) (b9' : r.b ≤ 4000) (hx : Hid (decide (0 < (kndL r o h s i).length) = x))
    (h1 : BlkF w 0 p1 [.int .i64 o, .int .i64 h]) (h2 : BlkF w 0 p2 [.int .i64 s]) (h3 : BlkF w 0 p3 [.slice AT tn tc, .int .i64 r.a, .int .i64 r.b, .int .i64 r.nc, .int .i64 r.dn, .int .i64 r.br, .int .i64 r.em, .int .i64 r.pa, .int .i64 r.sc]) :
    Calls Tryz.prog 52 #[.int .i64 i, .pointer (some ⟨p1, 0, none⟩), .pointer (some ⟨p2, 0, none⟩), .pointer (some ⟨p3, 0, none⟩)] w fun e w' => e = .returned (.bool x) ∧ Below w.heap.size w w' := by
  obtain ⟨L, hL⟩ : ∃ z, Hid (kndL r o h s i = z) := ⟨_, Lib.hid rfl⟩
  obtain ⟨n9, hn9⟩ : ∃ z, Hid (L.length = z) := ⟨_, Lib.hid rfl⟩
  rw [hL.out, hn9.out] at hx
  obtain ⟨c0, c1⟩ := b2 h1
  have c2 := b1 h2
  obtain ⟨r0, r1, r2, r3, r4, r5, r6, r7, r8⟩ := b9 h3
  have hx2 : Hid (decide (0 < (n9 : Int)) = x) := Lib.hid (by rw [← hx.out]; simp)
  go_enter Tryz.func52, Tryz.ntmps52
  go_wp2_with fail
  refine (tooDeep_is o h s i r AT tn tc L _ hg s0 s1 (by omega) (by omega) b0 b9' hL).mono ?_
  rintro e x1 ⟨A, c, rfl, _, _, _, hb1⟩
  rw [hn9.out]
  go_wp2
  go_ret
  exact ⟨ret_bool (by first | exact hx.out | exact hx2.out), hb1⟩
end Go.Proofs.YtijdphlejokijaaGreat
