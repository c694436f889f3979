import Derived.Test.YtijdphlejokijaaGreatERSELgs
import Derived.Test.YtijdphlejokijaaGreatERSCol
import Derived.Outline
namespace Go.Proofs.YtijdphlejokijaaGreat
open Go.Shelf Go.ChangeShapes Go.WideShapes Go.ChangeAt Go.RowKit
set_option linter.unusedVariables false
set_option linter.unusedSimpArgs false
attribute [local go_sem ↓] Go.wp_at_zero Go.wp_at_succ
attribute [local go_sem] Oper.semAt_some
theorem _root_.Go.Boxed.below' {W W' : World} {b : Nat} {t : TypeId} {v : Value} (h : Boxed W b t v) (hb : Below W.heap.size W W') : Boxed W' b t v := (hb.block b h.lt).trans h
/-- What a leg adds to the clock. -/
def clkX (T : List Ox) (y : Pl) : Int := clkV T y.s (oxLo y) (oxHi y)
theorem slk_of {α : Type} {f : α → List Value} {n : Nat} {w : World} {bs : List Nat} {A : Option Addr} {L : List α} (h : SlRows f n w A L) (hb : ∀ b ∈ bsO A L, b ∈ bs) : SlK f n w bs A L := by
  rcases h with rfl | ⟨c, off, rfl, hl, hR⟩
  · exact Or.inl rfl
  · cases L with
    | nil => exact Or.inl rfl
    | cons x l => exact Or.inr ⟨c, off, rfl, hb c (by simp [bsO]), hl, hR⟩
set_option maxRecDepth 100000 in
set_option maxHeartbeats 8000000 in
theorem ClockOf_any (nm : ByteArray) (s : Int) (G : List Ga) (D : List Le) (A B : Option Addr) (gn gc dn dc N0 : Nat) (E0 : Int) (T : List Ox) (r : Ru) (AT : Option Addr) (tn tc : Nat) (E1 E : Int) (w : World) (hz : nm.size ≤ 9223372036854775807) (hgn : Hid (gn = G.length)) (hgl : gn ≤ 9223372036854775807) (hdn : Hid (dn = D.length)) (hdl : dn ≤ 9223372036854775807) (hG : Hid (SlRows gaV 2 w A G)) (hD : Hid (SlRows leV 3 w B D)) (hE0 : Hid (plnP nm s G D = (N0, E0)))
    (htn : Hid (tn = T.length)) (htl : tn ≤ 9223372036854775807) (hT : Hid (SlRows oxV 2 w AT T)) (hE1 : Hid (ruE T r = E1)) (hE : Hid (firE [E0, E1] = E)) :
    Calls Tryz.prog 21 #[.agg #[.string nm, .int .i64 s, .slice A gn gc, .slice B dn dc], .agg #[.slice AT tn tc, .int .i64 r.a, .int .i64 r.b, .int .i64 r.nc, .int .i64 r.dn, .int .i64 r.br, .int .i64 r.em, .int .i64 r.pa, .int .i64 r.sc]] w fun e w' =>
      (¬ E = 0 ∧ e = .returned (.tuple #[.slice none 0 0, .int .i64 E]) ∧ Below w.heap.size w w') ∨
      (E = 0 ∧ ∃ C c, e = .returned (.tuple #[.slice C dn c, .int .i64 0]) ∧ SlRows inV 1 w' C ((List.range dn).map fun k => clkX T (legK s G D k)) ∧ (∀ ad, C = some ad → w.heap.size ≤ ad.block) ∧ (C = none → c = 0) ∧ Below w.heap.size w w') := by
  obtain ⟨i0, hi, hz0', hz1', hz2'⟩ := info_partsG infoIn
  have HI := Lib.hid hi
  have HZ0 := Lib.hid hz0'
  have HZ1 := Lib.hid hz1'
  have HZ2 := Lib.hid hz2'
  clear hi hz0' hz1' hz2'
  refine (callsIn_wide (n := 8)).1 ?_
  refine callsIn_of_wp_marks Tryz.func21 rfl trivial ?_ rfl
  simp only [Tryz.ntmps21, List.size_toArray, List.length_cons, List.length_nil, Nat.reduceAdd, Nat.reduceSub, Array.replicate_succ, Array.replicate_zero, List.push_toArray, List.append_toArray, List.nil_append, List.cons_append]
  gi_wp2_with fail
  have hb0 : Below w.heap.size w ((w.alloc (.cells #[.string nm, .int .i64 s, .slice A gn gc, .slice B dn dc] 25)).alloc (.cells #[.slice AT tn tc, .int .i64 r.a, .int .i64 r.b, .int .i64 r.nc, .int .i64 r.dn, .int .i64 r.br, .int .i64 r.em, .int .i64 r.pa, .int .i64 r.sc] 30)) := ((Below.refl _ _).alloc (Nat.le_refl _) _).alloc (by simp) _
  have Zr := BlkF.made (B := w.heap.size) (w.alloc (.cells #[.string nm, .int .i64 s, .slice A gn gc, .slice B dn dc] 25)) [.slice AT tn tc, .int .i64 r.a, .int .i64 r.b, .int .i64 r.nc, .int .i64 r.dn, .int .i64 r.br, .int .i64 r.em, .int .i64 r.pa, .int .i64 r.sc] 30 (by simp)
  have hz0 : ((w.alloc (.cells #[.string nm, .int .i64 s, .slice A gn gc, .slice B dn dc] 25)).alloc (.cells #[.slice AT tn tc, .int .i64 r.a, .int .i64 r.b, .int .i64 r.nc, .int .i64 r.dn, .int .i64 r.br, .int .i64 r.em, .int .i64 r.pa, .int .i64 r.sc] 30)).heap.size = w.heap.size + 2 := by simp
  refine ⟨trivial, (callsIn_wide.2 (follow_any nm s G D A B gn gc dn dc N0 E0 _ hz hgn hgl hdn hdl (Lib.hid (hG.out.below hb0)) (Lib.hid (hD.out.below hb0)) hE0)).mono ?_⟩
  rintro e x1 h
  obtain ⟨a0, a1, a2, n2, c2, a3, n3, c3, a4, n4, c4, a5, rfl, hb1, hgood⟩ : ∃ a0 a1 a2 n2 c2 a3 n3 c3 a4 n4 c4 a5, e = .returned (.tuple #[.agg #[.string a0, .int .i64 a1, .slice a2 n2 c2, .slice a3 n3 c3, .slice a4 n4 c4, .int .i64 a5], .int .i64 E0]) ∧ Below ((w.alloc (.cells #[.string nm, .int .i64 s, .slice A gn gc, .slice B dn dc] 25)).alloc (.cells #[.slice AT tn tc, .int .i64 r.a, .int .i64 r.b, .int .i64 r.nc, .int .i64 r.dn, .int .i64 r.br, .int .i64 r.em, .int .i64 r.pa, .int .i64 r.sc] 30)).heap.size ((w.alloc (.cells #[.string nm, .int .i64 s, .slice A gn gc, .slice B dn dc] 25)).alloc (.cells #[.slice AT tn tc, .int .i64 r.a, .int .i64 r.b, .int .i64 r.nc, .int .i64 r.dn, .int .i64 r.br, .int .i64 r.em, .int .i64 r.pa, .int .i64 r.sc] 30)) x1 ∧ (E0 = 0 → (a0 = nm ∧ a1 = s ∧ a2 = A ∧ n2 = gn ∧ c2 = gc ∧ a3 = B ∧ n3 = dn ∧ c3 = dc ∧ n4 = dn + 1) ∧ SlRows ptV 2 x1 a4 (ptL D (dn + 1))) := by
    rcases h with ⟨h0, rfl, hb⟩ | ⟨h0, P, pc, E9, rfl, hP, _, hb⟩
    · exact ⟨_, _, _, _, _, _, _, _, _, _, _, _, rfl, hb, fun e => absurd e h0⟩
    · exact ⟨_, _, _, _, _, _, _, _, _, _, _, _, by rw [h0], hb, fun _ => ⟨⟨rfl, rfl, rfl, rfl, rfl, rfl, rfl, rfl, rfl⟩, hP⟩⟩
  have hB1 : Below w.heap.size w x1 := hb0.trans (hb1.mono hb0.size)
  have Yr := Zr.below (hb1.mono (by simp))
  have hs1 : w.heap.size + 2 ≤ x1.heap.size := by rw [← hz0]; exact hb1.size
  simp only [World.size_alloc] at Yr
  have hgood := Lib.hid hgood
  clear h Zr hb1 hb0 hz0
  obtain ⟨r0, r1, r2, r3, r4, r5, r6, r7, r8⟩ := b9 Yr
  have rl := Yr.lt
  have rne : w.heap.size + 1 ≠ x1.heap.size := by omega
  gi_wp2_with fail
  refine ⟨trivial, callsIn_world (fun X => Below x1.heap.size x1 X ∧ BlkF X w.heap.size x1.heap.size [.string a0, .int .i64 a1, .slice a2 n2 c2, .slice a3 n3 c3, .slice a4 n4 c4, .int .i64 a5]) ⟨?_, ?_⟩ (fun X hX => ?_)⟩
  · exact (Below.refl _ _).alloc (Nat.le_refl _) _
  · exact BlkF.made (B := w.heap.size) x1 [.string a0, .int .i64 a1, .slice a2 n2 c2, .slice a3 n3 c3, .slice a4 n4 c4, .int .i64 a5] 70 hB1.size
  obtain ⟨hbX, Z6⟩ := hX
  have hBX : Below w.heap.size w X := hB1.trans (hbX.mono hB1.size)
  refine (callsIn_wide.2 (CheckRules_any T r AT tn tc E1 X htn htl (Lib.hid (hT.out.below hBX)) hE1)).mono ?_
  rintro e x2 ⟨rfl, hb2⟩
  have hb12 : Below x1.heap.size x1 x2 := hbX.trans (hb2.mono hbX.size)
  have Y6 := Z6.below hb2
  clear hb2 Z6 hbX hBX
  gi_wp2_with fail
  have Z5 := BlkF.made (B := x2.heap.size) x2 [.int .i64 E0, .int .i64 E1] 35 (Nat.le_refl _)
  refine ⟨trivial, (callsIn_wide.2 (cFirstB [E0, E1] _ 0 2 _ rfl (by simp) (by simp) (blk_ints (l := [E0, E1]) Z5))).mono ?_⟩
  rintro e x3 ⟨rfl, hb3⟩
  rw [hE.out]
  have hb23 : Below x2.heap.size x2 x3 := ((Below.refl _ _).alloc (Nat.le_refl _) _).trans (hb3.mono (by simp))
  have V6 := Y6.below hb23
  have hb13 : Below x1.heap.size x1 x3 := hb12.trans (hb23.mono hb12.size)
  have Vr := Yr.below hb13
  have hB3 : Below w.heap.size w x3 := hB1.trans (hb13.mono hB1.size)
  have hs3 := hb13.size
  have hl6 := V6.lt
  clear Z5 hb3 hb23 Y6 hb12 Yr r0 r1 r2 r3 r4 r5 r6 r7 r8 rl rne
  by_cases hEE : ¬ E = 0
  · have hE3 : (E != 0) = true := by simpa using hEE
    gi_wp2
    exact ⟨_, results_tmp2 rfl _ _ _, Or.inl ⟨hEE, rfl, hB3⟩⟩
  obtain rfl : E = 0 := by omega
  obtain ⟨rfl, rfl⟩ : E0 = 0 ∧ E1 = 0 := by
    have := firE_all hE.out
    exact ⟨this _ (by simp), this _ (by simp)⟩
  obtain ⟨⟨rfl, rfl, rfl, rfl, rfl, rfl, rfl, rfl, rfl⟩, hP⟩ := hgood.out rfl
  have hok := Lib.hid (pln_ok hE0.out)
  have hru := ru_ok hE1.out
  have hox := Lib.hid hru.ox
  have HP := Lib.hid hP
  have d60 : n3 ≤ 60 := by have := hok.out.d6; have := hdn.out; omega
  obtain ⟨f0, f1, f2, f3, f4, f5⟩ := b6 V6
  clear hP hgood hru hE
  have fne : x1.heap.size ≠ x3.heap.size := by omega
  gi_wp2_with fail
  refine ⟨trivial, (callsIn_wide.2 (legs_is a0 a1 a2 a3 a4 n2 c2 n3 c3 c4 a5 _)).mono ?_⟩
  rintro e W0 ⟨rfl, hW0⟩
  obtain ⟨tb, htb⟩ : ∃ z, x3.heap.size = z := ⟨_, rfl⟩
  simp only [World.size_alloc, htb] at hW0 ⊢
  have bS : Boxed W0 tb 42 (.slice none 0 0) := by rw [← hW0, ← htb]; exact (Boxed.new x3 42 _).alloc _
  have hsz : W0.heap.size = tb + 2 := by rw [← hW0, ← htb]; simp
  have hbW : Below x3.heap.size x3 W0 := by rw [← hW0]; exact ((Below.refl _ _).alloc (Nat.le_refl _) _).alloc (by simp) _
  have ZF : BlkF W0 w.heap.size (tb + 1) [.string a0, .int .i64 a1, .slice a2 n2 c2, .slice a3 n3 c3, .slice a4 (n3 + 1) c4, .int .i64 a5] := by
    rw [← hW0]
    have := BlkF.made (B := w.heap.size) (x3.alloc (.cells #[.slice none 0 0] 42)) [.string a0, .int .i64 a1, .slice a2 n2 c2, .slice a3 n3 c3, .slice a4 (n3 + 1) c4, .int .i64 a5] 70 (by have := hB3.size; simp; omega)
    simpa [htb] using this
  clear hW0
  have hb1W : Below x1.heap.size x1 W0 := hb13.trans (hbW.mono hb13.size)
  have hBW : Below w.heap.size w W0 := hB1.trans (hb1W.mono hB1.size)
  have WR := Vr.below (hbW)
  have rl1 : w.heap.size + 1 < tb := by omega
  obtain ⟨bs, hbs0⟩ : ∃ bs, bs = (tb + 1) :: (bsO a2 G ++ bsO a3 D ++ bsO a4 (ptL D (n3 + 1))) := ⟨_, rfl⟩
  have hM : FolM bs (tb + 1) a0 a1 G D a2 a3 a4 n2 c2 n3 c3 c4 a5 W0 := by
    obtain ⟨e0, e1, e2, e3, e4, e5⟩ := b6 ZF
    exact ⟨by rw [hbs0]; simp, ZF.lt, e0, e1, e2, e3, e4, e5, slk_of (hG.out.below hBW) (fun b hb => by rw [hbs0]; simp [hb]), slk_of (hD.out.below hBW) (fun b hb => by rw [hbs0]; simp [hb]), slk_of (HP.out.below hb1W) (fun b hb => by rw [hbs0]; simp [hb])⟩
  have hbs : ∀ b ∈ bs, b < W0.heap.size ∧ b ≠ tb := by
    intro b hb
    rw [hbs0] at hb
    simp only [List.mem_cons, List.mem_append] at hb
    rcases hb with rfl | (hb | hb) | hb
    · omega
    · have := bsO_lt hG.out b hb; omega
    · have := bsO_lt hD.out b hb; omega
    · have := bsO_lt HP.out b hb; omega
  have HTT : Hid (SlRows oxV 2 W0 AT T) := Lib.hid (hT.out.below hBW)
  have hTtb : ∀ ad, AT = some ad → T ≠ [] → ad.block < tb := fun ad had hne => by
    rcases hT.out with h | ⟨b, off, rfl, hl, _⟩
    · exact absurd h hne
    · cases had; simp; omega
  obtain ⟨N, hN⟩ : ∃ N, W0.heap.size = N := ⟨_, rfl⟩
  clear hbs0 ZF V6 Vr f0 f1 f2 f3 f4 f5 hb13 hbW hb1W
  gi_wp2
  refine wpIn_rangeFunc_ownH rfl (by decide) (gf := 69) (lb := #[.pointer (some ⟨tb + 1, 0, none⟩)]) rfl trivial (enters_of Tryz.func69 (by kernel_rfl) rfl)
    (legs_stops _ (by decide) bs (tb + 1) a0 a1 G D a2 a3 a4 n2 c2 n3 c3 c4 a5 W0 hgn hdn hok hM) KpB.trans (fun W l o o' hl h a b => KpB.put (N := W0.heap.size) (fun b hb => (hbs b hb).1) W l o o' hl h a b) (Below.refl _ _) (fun _ => rfl)
    (fun pre W => ((∃ v, Boxed W tb 42 v ∧ W.ownsRow N 3 1 v (pre.map fun k => clkX T (legC a1 G D k)).length (rowsV inV (pre.map fun k => clkX T (legC a1 G D k))) ∧ True) ∧ KeptO N tb W0 W) ∧ Below tb W0 W)
    (fun _ _ _ => False)
    (OwnFrom.and (OwnFrom.and (Own.from (holdsRow_own N tb 42 3 1 (fun (pre : List Nat) => (pre.map fun k => clkX T (legC a1 G D k)).length) (fun (pre : List Nat) => rowsV inV (pre.map fun k => clkX T (legC a1 G D k))) (fun _ _ => True)) _) (keptO_own (by omega) (by omega))) (ownFrom_below (by omega) (by omega)))
    (fun _ _ _ _ _ hs _ _ => hs)
    ⟨⟨⟨_, bS, ⟨rfl, .inl ⟨rfl, rfl⟩⟩, trivial⟩, KeptO.refl _ _ _⟩, Below.refl _ _⟩
    (fun x a' W => ∃ Bx t0 t1 t2 t4 t5 t6 t7 t10 t11 t12 t13 t14 t15 t16 t17 t18 t19 t20 t21 t22 t23 t24 t25 t26 t27 t28 t29 t30 t31 t32 t33, (N ≤ Bx ∧ ∀ v, Boxed W tb 42 v → True) ∧ BoxN W Bx 96 [.int .i64 (legC a1 G D x).s, .int .i64 (legC a1 G D x).d, .int .i64 (legC a1 G D x).g, .int .i64 (legC a1 G D x).nu, .int .i64 (legC a1 G D x).bs, .int .i64 (legC a1 G D x).bd, .int .i64 (legC a1 G D x).su, .int .i64 (legC a1 G D x).o, .int .i64 (legC a1 G D x).h] ∧ a' = { tmps := #[t0, t1, t2, .pointer (some ⟨w.heap.size + 1, 0, none⟩), t4, t5, t6, t7, .pointer (some ⟨tb, 0, none⟩), .pointer (some ⟨Bx, 0, none⟩), t10, t11, t12, t13, t14, t15, t16, t17, t18, t19, t20, t21, t22, t23, t24, t25, t26, t27, t28, t29, t30, t31, t32, t33], defers := [] })
    (fun x a' _ X Y row hs hg hr => by obtain ⟨Bx, t0, t1, t2, t4, t5, t6, t7, t10, t11, t12, t13, t14, t15, t16, t17, t18, t19, t20, t21, t22, t23, t24, t25, t26, t27, t28, t29, t30, t31, t32, t33, h1, h2, h3⟩ := hs; exact ⟨Bx, t0, t1, t2, t4, t5, t6, t7, t10, t11, t12, t13, t14, t15, t16, t17, t18, t19, t20, t21, t22, t23, t24, t25, t26, t27, t28, t29, t30, t31, t32, t33, ⟨h1.1, fun _ _ => trivial⟩, boxN_own Bx 96 (fun (_ : Unit) => [.int .i64 (legC a1 G D x).s, .int .i64 (legC a1 G D x).d, .int .i64 (legC a1 G D x).g, .int .i64 (legC a1 G D x).nu, .int .i64 (legC a1 G D x).bs, .int .i64 (legC a1 G D x).bd, .int .i64 (legC a1 G D x).su, .int .i64 (legC a1 G D x).o, .int .i64 (legC a1 G D x).h]) () X Y row h2 hg (fun r e => (hr r e).2), h3⟩)
    ?assign ?body ?done ?stop
  case assign =>
    rintro l pre x W K hi hK
    have hko := hi.1.2
    have hNW : N ≤ W.heap.size := by rw [← hN]; exact hko.size
    gi_wp2
    have HB9 : BoxN (W.alloc (.cells #[.int .i64 (legC a1 G D x).s, .int .i64 (legC a1 G D x).d, .int .i64 (legC a1 G D x).g, .int .i64 (legC a1 G D x).nu, .int .i64 (legC a1 G D x).bs, .int .i64 (legC a1 G D x).bd, .int .i64 (legC a1 G D x).su, .int .i64 (legC a1 G D x).o, .int .i64 (legC a1 G D x).h] 96)) W.heap.size 96 [.int .i64 (legC a1 G D x).s, .int .i64 (legC a1 G D x).d, .int .i64 (legC a1 G D x).g, .int .i64 (legC a1 G D x).nu, .int .i64 (legC a1 G D x).bs, .int .i64 (legC a1 G D x).bd, .int .i64 (legC a1 G D x).su, .int .i64 (legC a1 G D x).o, .int .i64 (legC a1 G D x).h] := BoxN.new W 96 [.int .i64 (legC a1 G D x).s, .int .i64 (legC a1 G D x).d, .int .i64 (legC a1 G D x).g, .int .i64 (legC a1 G D x).nu, .int .i64 (legC a1 G D x).bs, .int .i64 (legC a1 G D x).bd, .int .i64 (legC a1 G D x).su, .int .i64 (legC a1 G D x).o, .int .i64 (legC a1 G D x).h]
    have hb9 : Below W.heap.size W (W.alloc (.cells #[.int .i64 (legC a1 G D x).s, .int .i64 (legC a1 G D x).d, .int .i64 (legC a1 G D x).g, .int .i64 (legC a1 G D x).nu, .int .i64 (legC a1 G D x).bs, .int .i64 (legC a1 G D x).bd, .int .i64 (legC a1 G D x).su, .int .i64 (legC a1 G D x).o, .int .i64 (legC a1 G D x).h] 96)) := (Below.refl _ _).alloc (Nat.le_refl _) _
    refine hK _ _ (keepsFrom_below _ hb9) ((KeptO.of_below (N := N) (t := tb) (hb9.mono hNW)).kpB (by rw [← hN]; exact hbs)) ?_ ⟨W.heap.size, _, _, _, _, _, _, _, _, _, _, _, _, _, _, _, _, _, _, _, _, _, _, _, _, _, _, _, _, _, _, _, ⟨hNW, fun _ _ => trivial⟩, HB9, rfl⟩
    obtain ⟨⟨⟨v, hv, hrow, _⟩, hko⟩, hbl⟩ := hi
    exact ⟨⟨⟨v, hv.below' hb9, own_belowG hrow hb9 (Nat.le_refl _), trivial⟩, hko.trans (KeptO.of_below (hb9.mono hNW))⟩, hbl.trans (hb9.mono (by omega))⟩
  case body =>
    rintro l pre x a' W hl hr ⟨⟨⟨v, hbv, hrow, _⟩, hko⟩, hbl⟩ ⟨Bx, t0, t1, t2, t4, t5, t6, t7, t10, t11, t12, t13, t14, t15, t16, t17, t18, t19, t20, t21, t22, t23, t24, t25, t26, t27, t28, t29, t30, t31, t32, t33, hBx, HB9, rfl⟩ hlen
    have hne := HB9.not_row (by decide) hrow
    replace hBx := hBx.1
    obtain ⟨yl, hy⟩ : ∃ z, Hid (legC a1 G D x = z) := ⟨_, Lib.hid rfl⟩
    have hyo : Hid (PlOk yl) := Lib.hid (by rw [← hy.out]; exact legC_ok hok.out x)
    rw [hy.out] at HB9
    obtain ⟨q9, hq9⟩ : ∃ z, Hid (clkV T yl.s (oxLo yl) (oxHi yl) = z) := ⟨_, Lib.hid rfl⟩
    obtain ⟨L, hL⟩ : ∃ z, Hid ((pre.map fun k => clkX T (legC a1 G D k)) = z) := ⟨_, Lib.hid rfl⟩
    rw [hL.out] at hrow
    obtain ⟨A4, c4, rfl, hS4, _, _, _, _⟩ := SlRows_own (f := inV) (n := 1) (L := L) (fun _ => rfl) hrow
    obtain ⟨ll, hll⟩ : ∃ z, Hid (L.length = z) := ⟨_, Lib.hid rfl⟩
    have hll60 : ll < 60 := by have h1 := hll.out; rw [← hL.out, List.length_map] at h1; omega
    rw [hll.out] at hrow hbv hne
    have hNW : N ≤ W.heap.size := by rw [← hN]; exact hko.size
    have htN : tb < N := by omega
    have htb2 : tb < W.heap.size := by omega
    have hrb : w.heap.size + 1 < W.heap.size := by omega
    rw [hN] at hbs
    replace HTT : Hid (∀ y, Below W.heap.size W y → SlRows oxV 2 y AT T) := Lib.hid fun y hy => by
      by_cases hT0 : T = []
      · exact Or.inl hT0
      · exact (hko.sl HTT.out (fun ad had => by have := hTtb ad had hT0; omega)).below hy
    have HOW : Hid (∀ y, Below W.heap.size W y → y.ownsRow N 3 1 (.slice A4 ll c4) ll (rowsV inV L)) := Lib.hid fun y hy => own_belowG hrow hy (Nat.le_refl _)
    have HB := HB9.blk hBx
    obtain ⟨l0, l1, l2, l3, l4, l5, l6, l7, l8⟩ := b9 HB
    have s0 := hbv.cell
    have s1 : W.cell? ⟨w.heap.size + 1, 0, none⟩ = some (.slice AT tn tc) := (hko.cell (by omega) (by omega) 0).trans (WR.at' 0 _ rfl)
    have HS : Hid (∀ y, Below W.heap.size W y → y.cell? ⟨tb, 0, none⟩ = some (.slice A4 ll c4) ∧ y.cell? ⟨Bx, 0, none⟩ = some (.int .i64 yl.s) ∧ y.cell? ⟨Bx, 1, none⟩ = some (.int .i64 yl.d) ∧ y.cell? ⟨Bx, 2, none⟩ = some (.int .i64 yl.g) ∧ y.cell? ⟨Bx, 3, none⟩ = some (.int .i64 yl.nu) ∧ y.cell? ⟨Bx, 4, none⟩ = some (.int .i64 yl.bs) ∧ y.cell? ⟨Bx, 5, none⟩ = some (.int .i64 yl.bd) ∧ y.cell? ⟨Bx, 6, none⟩ = some (.int .i64 yl.su) ∧ y.cell? ⟨Bx, 7, none⟩ = some (.int .i64 yl.o) ∧ y.cell? ⟨Bx, 8, none⟩ = some (.int .i64 yl.h) ∧ y.cell? ⟨w.heap.size + 1, 0, none⟩ = some (.slice AT tn tc)) := Lib.hid fun y hy => ⟨(hy.cell (p := ⟨tb, 0, none⟩) htb2).trans s0, (hy.cell (p := ⟨Bx, 0, none⟩) HB9.lt).trans l0, (hy.cell (p := ⟨Bx, 1, none⟩) HB9.lt).trans l1, (hy.cell (p := ⟨Bx, 2, none⟩) HB9.lt).trans l2, (hy.cell (p := ⟨Bx, 3, none⟩) HB9.lt).trans l3, (hy.cell (p := ⟨Bx, 4, none⟩) HB9.lt).trans l4, (hy.cell (p := ⟨Bx, 5, none⟩) HB9.lt).trans l5, (hy.cell (p := ⟨Bx, 6, none⟩) HB9.lt).trans l6, (hy.cell (p := ⟨Bx, 7, none⟩) HB9.lt).trans l7, (hy.cell (p := ⟨Bx, 8, none⟩) HB9.lt).trans l8, (hy.cell (p := ⟨w.heap.size + 1, 0, none⟩) hrb).trans s1⟩
    clear s0 s1 l0 l1 l2 l3 l4 l5 l6 l7 l8 HB hrow hr
    refine wpIn_block ?_
    refine wpIn_round_heldZ (S := (fun w' => w'.cell? ⟨tb, 0, none⟩ = some (.slice A4 ll c4) ∧ w'.cell? ⟨Bx, 0, none⟩ = some (.int .i64 yl.s) ∧ w'.cell? ⟨Bx, 1, none⟩ = some (.int .i64 yl.d) ∧ w'.cell? ⟨Bx, 2, none⟩ = some (.int .i64 yl.g) ∧ w'.cell? ⟨Bx, 3, none⟩ = some (.int .i64 yl.nu) ∧ w'.cell? ⟨Bx, 4, none⟩ = some (.int .i64 yl.bs) ∧ w'.cell? ⟨Bx, 5, none⟩ = some (.int .i64 yl.bd) ∧ w'.cell? ⟨Bx, 6, none⟩ = some (.int .i64 yl.su) ∧ w'.cell? ⟨Bx, 7, none⟩ = some (.int .i64 yl.o) ∧ w'.cell? ⟨Bx, 8, none⟩ = some (.int .i64 yl.h) ∧ w'.cell? ⟨w.heap.size + 1, 0, none⟩ = some (.slice AT tn tc))) 7 (by kernel_rfl) (by kernel_rfl) (not_letsOut_block not_letsOut_own) (by kernel_rfl) (by kernel_rfl) (HS.out _ (Below.refl _ _).drew) (fun hHeld => ?_)
    have hT0 : Below W.heap.size W W.drew := (Below.refl _ _).drew
    generalize hdr : W.drew = v0 at *
    clear hdr
    refine wpAnyZ_take (i := 0) (oi := ⟨some 26, _, _, _, _, _⟩) (v := ?_) (by kernel_rfl) (by kernel_rfl) rfl rfl (by kernel_rfl) (by kernel_rfl) (by kernel_rfl) (fun _ _ _ h => h) (Or.inl ⟨by kernel_rfl, ?_⟩) (by assumption) ?_
    rotate_left
    · (intro w hSw; (try dsimp only at hSw); go_simp; all_goals with_reducible rfl)
    try simp only [Act.put, sA, sB, sC]
    refine wpAnyZ_take (i := 1) (oi := ⟨some 27, _, _, _, _, _⟩) (v := ?_) (by kernel_rfl) (by kernel_rfl) rfl rfl (by kernel_rfl) (by kernel_rfl) (by kernel_rfl) (fun _ _ _ h => h) (Or.inl ⟨by kernel_rfl, ?_⟩) (by assumption) ?_
    rotate_left
    · (intro w hSw; (try dsimp only at hSw); go_simp; all_goals with_reducible rfl)
    try simp only [Act.put, sA, sB, sC]
    refine wpAnyZ_take (i := 2) (oi := ⟨some 28, _, _, _, _, _⟩) (v := ?_) (by kernel_rfl) (by kernel_rfl) rfl rfl (by kernel_rfl) (by kernel_rfl) (by kernel_rfl) (fun _ _ _ h => h) (Or.inl ⟨by kernel_rfl, ?_⟩) (by assumption) ?_
    rotate_left
    · (intro w hSw; (try dsimp only at hSw); go_simp; all_goals with_reducible rfl)
    try simp only [Act.put, sA, sB, sC]
    refine wpAnyZ_take (i := 3) (oi := ⟨some 29, _, _, _, _, _⟩) (v := ?_) (by kernel_rfl) (by kernel_rfl) rfl rfl (by kernel_rfl) (by kernel_rfl) (by kernel_rfl) (fun _ _ _ h => h) (Or.inl ⟨by kernel_rfl, ?_⟩) (by assumption) ?_
    rotate_left
    · (intro w hSw; (try dsimp only at hSw); go_simp; all_goals with_reducible rfl)
    try simp only [Act.put, sA, sB, sC]
    refine wpAnyZ_call (q := 4) (by kernel_rfl) rfl rfl (fun K hK => ?_)
    go_simp
    refine (clock_is yl T AT tn tc q9 _ htn (HTT.out _ hT0) hox hyo hq9).mono ?_
    rintro e v1 ⟨rfl, hbv0⟩
    have hT1 : Below W.heap.size W v1 := hT0.trans (hbv0.mono hT0.size)
    clear hbv0
    go_wp2_with fail
    refine hK.out _ _ (HS.out _ hT1) (fun hHeld => ?_)
    clear hK K
    try simp only [Act.put, sA, sB, sC]
    refine wpAnyZ_call (q := 5) (by kernel_rfl) rfl rfl (fun K hK => ?_)
    go_simp
    go_wp2_with fail
    refine hK.out _ _ (HS.out _ (hT1.alloc hT1.size _)) (fun hHeld => ?_)
    clear hK K
    try simp only [Act.put, sA, sB, sC]
    have HNb5 := Lib.hid (BlkF.made (B := W.heap.size) v1 [.int .i64 q9] 3 hT1.size)
    have hbv1 : Below v1.heap.size v1 (v1.alloc (.cells #[.int .i64 q9] 3)) := (Below.refl _ _).alloc (Nat.le_refl _) _
    have hnb5 : W.heap.size ≤ v1.heap.size := hT1.size
    have exb5 : ∃ x, v1.heap.size = x := ⟨_, rfl⟩
    generalize hq1 : v1.alloc (.cells #[.int .i64 q9] 3) = v2 at *
    have hT2 : Below W.heap.size W v2 := hT1.trans (hbv1.mono hT1.size)
    obtain ⟨b5, eb5⟩ := exb5
    rw [eb5] at HNb5 hnb5 ⊢
    clear hbv1 hq1
    refine wpAnyZ_call (q := 6) (by kernel_rfl) rfl rfl (fun K hK => ?_)
    rw [if_pos (by kernel_rfl)]
    refine oper_append_slG _ _ 42 rfl N 3 i0 (.int .i64 0) 1 8 Tryz.underlying42 HI.out HZ0.out HZ1.out HZ2.out rfl (by decide) (.slice A4 ll c4) ll (rowsV inV L) rfl (HOW.out _ hT2) (some ⟨b5, 0, none⟩) 1 1 [.int .i64 q9] rfl (fun h => by cases h) rfl (fun ad had j v hj => by cases had; rw [addNR, Nat.zero_add]; exact HNb5.out.at' j v hj) (by intro v hv; simp at hv; subst hv; rfl) ?d1 ?d2 (Nat.le_trans hNW hT2.size) ?_
    case d1 => unfold maxLen; omega
    case d2 => omega
    intro rv v3 hown hgrow hblk
    obtain ⟨k1, k2, k3, k4, k5, k6⟩ := box_append (W := v2) (hbv.below' hT2) (by decide) (HOW.out _ hT2) (Nat.le_trans hNW hT2.size) htN hown hgrow
    have hS9 : v3.cell? ⟨tb, 0, none⟩ = some (.slice A4 ll c4) ∧ v3.cell? ⟨Bx, 0, none⟩ = some (.int .i64 yl.s) ∧ v3.cell? ⟨Bx, 1, none⟩ = some (.int .i64 yl.d) ∧ v3.cell? ⟨Bx, 2, none⟩ = some (.int .i64 yl.g) ∧ v3.cell? ⟨Bx, 3, none⟩ = some (.int .i64 yl.nu) ∧ v3.cell? ⟨Bx, 4, none⟩ = some (.int .i64 yl.bs) ∧ v3.cell? ⟨Bx, 5, none⟩ = some (.int .i64 yl.bd) ∧ v3.cell? ⟨Bx, 6, none⟩ = some (.int .i64 yl.su) ∧ v3.cell? ⟨Bx, 7, none⟩ = some (.int .i64 yl.o) ∧ v3.cell? ⟨Bx, 8, none⟩ = some (.int .i64 yl.h) ∧ v3.cell? ⟨w.heap.size + 1, 0, none⟩ = some (.slice AT tn tc) := by
      have e1 : v3.heap[Bx]? = v2.heap[Bx]? := hgrow.block _ (Nat.lt_of_lt_of_le HB9.lt hT2.size) hne
      have e2 : v3.heap[w.heap.size + 1]? = v2.heap[w.heap.size + 1]? := hgrow.block _ (Nat.lt_of_lt_of_le hrb hT2.size) (fun e => by have := (own_blockG (HOW.out _ hT2) _ e.symm).1; omega)
      obtain ⟨h0, h1, h2, h3, h4, h5, h6, h7, h8, h9, h10⟩ := HS.out _ hT2
      exact ⟨k1.cell, (World.cell?_of_block (a := ⟨Bx, 0, none⟩) e1).trans h1, (World.cell?_of_block (a := ⟨Bx, 1, none⟩) e1).trans h2, (World.cell?_of_block (a := ⟨Bx, 2, none⟩) e1).trans h3, (World.cell?_of_block (a := ⟨Bx, 3, none⟩) e1).trans h4, (World.cell?_of_block (a := ⟨Bx, 4, none⟩) e1).trans h5, (World.cell?_of_block (a := ⟨Bx, 5, none⟩) e1).trans h6, (World.cell?_of_block (a := ⟨Bx, 6, none⟩) e1).trans h7, (World.cell?_of_block (a := ⟨Bx, 7, none⟩) e1).trans h8, (World.cell?_of_block (a := ⟨Bx, 8, none⟩) e1).trans h9, (World.cell?_of_block (a := ⟨w.heap.size + 1, 0, none⟩) e2).trans h10⟩
    obtain ⟨lq, hlq⟩ : ∃ z, Hid ((L ++ [q9]).length = z) := ⟨_, Lib.hid rfl⟩
    obtain ⟨A5, c5, hrv, hS5, _, _, _, _⟩ := SlRows_own (f := inV) (n := 1) (L := L ++ [q9]) (fun _ => rfl) (by rw [rowsV_appG, List.length_append, hll.out]; exact hown)
    rw [hlq.out] at hrv
    subst hrv
    refine hK.out _ _ hS9 (fun hHeld => ?_)
    clear hK K hS9
    try simp only [Act.put, sA, sB, sC]
    have HTV := Lib.hid hT2
    have hfz := k1.frozen
    have hcl := k1.cell
    refine wpAnyZ_last (by kernel_rfl) rfl (fun K hK => ?_)
    go_simp
    go_wp2_with fail
    refine hK.out _ _ ?_
    clear hK K
    try simp only [Act.put, sA, sB, sC]
    refine ⟨(keepsFrom_below _ HTV.out).trans (k4.from _), (((KeptO.of_below (HTV.out.mono hNW)).trans k6).kpB hbs), ⟨⟨_, k2, ?_, trivial⟩, hko.trans ((KeptO.of_below (HTV.out.mono hNW)).trans k6)⟩, hbl.trans ((HTV.out.mono (by omega)).trans k5)⟩
    rw [List.map_append, List.length_append, rowsV_appG, hL.out, hll.out]
    have e9 : clkX T (legC a1 G D x) = q9 := by rw [hy.out]; exact hq9.out
    simp only [List.map_cons, List.map_nil, e9]
    exact k3
  case done =>
    rintro Dq xs W hDq rfl ⟨⟨⟨v, hbv, hrow, _⟩, hko⟩, hbl⟩ hK
    have hLL : (List.range n3).map (fun k => clkX T (legC a1 G D k)) = (List.range n3).map (fun k => clkX T (legK a1 G D k)) := List.map_congr_left (fun k hk => by rw [legC_is (by have := hdn.out; have := List.mem_range.1 hk; omega)])
    rw [hLL] at hrow
    obtain ⟨A4, c4, rfl, hS4, hge, hnil, _, _⟩ := SlRows_own (f := inV) (n := 1) (L := (List.range n3).map (fun k => clkX T (legK a1 G D k))) (fun _ => rfl) hrow
    have s0 := hbv.cell
    rw [List.length_map, List.length_range] at s0
    have hrow2 := ownsRow_putObj hrow (.deferred none) hK rfl
    obtain ⟨A5, c5, he5, hS5, _, _, _, _⟩ := SlRows_own (f := inV) (n := 1) (L := (List.range n3).map (fun k => clkX T (legK a1 G D k))) (fun _ => rfl) hrow2
    cases he5
    gi_wp2
    refine ⟨by simp, .inl ⟨_, _, rfl, run_takeDeferred hK, ?_⟩⟩
    refine ⟨_, results_tmp2 rfl _ _ _, ⟨A4, c4, rfl, hS5, fun ad had => ?_, hnil, ?_⟩⟩
    · have := hge ad had; have := hBW.size; omega
    · exact (hBW.trans (hbl.mono (by omega))).trans (belowK_b (w := w) (Nat.le_refl _) W Dq _ _ (by have := hBW.size; omega) hK rfl rfl)
  case stop =>
    rintro Dq c pre W _ _ h _
    exact h.elim
end Go.Proofs.YtijdphlejokijaaGreat
