import Derived.Test.YtijdphlejokijaaEWIEKnd
import Derived.Test.YtijdphlejokijaaEWIEClkOf
import Derived.Test.YtijdphlejokijaaEWIESwq
import Derived.Test.YtijdphlejokijaaEWIPos
import Derived.Outline
namespace Go.Proofs.Ytijdphlejokijaa
open Go.ChangeShapes Go.WideShapes Go.ChangeAt Go.RowKit
set_option linter.unusedVariables false
set_option linter.unusedSimpArgs false
attribute [local go_sem ↓] Go.wp_at_zero Go.wp_at_succ
attribute [local go_sem] Oper.semAt_some
open Go.Shelf
theorem infoP9 : (Try.prog.info? 69).map (fun i => (i.zero, i.size, i.bytes)) = some (some (.agg #[.int .i64 0, .int .i64 0]), 2, 16) := by kernel_rfl
/-- How many breaks there are ahead of a leg's j-th kind. -/
def BkN (KL : List Int) (L : List (Int × Int)) (yl : Pl) (j : Nat) : Nat := (L ++ (KL.take j).map fun k => (yl.nu, k)).length
/-- What stands between two of a leg's kinds. -/
def BkI (M N tb Bx : Nat) (W : World) (KA : Option Addr) (KL : List Int) (L : List (Int × Int)) (yl : Pl) (j n : Nat) (C : Option Addr) (c : Nat) (wr : World) : Prop :=
  Boxed wr tb 63 (.slice C n c) ∧ wr.ownsRow N 69 2 (.slice C n c) n (rowsV p2V (L ++ (KL.take j).map fun k => (yl.nu, k))) ∧ (∀ k, (Value.slice C n c).ownBlock = some k → k < W.heap.size ∨ M ≤ k) ∧ BoxN wr Bx 119 [.int .i64 yl.s, .int .i64 yl.d, .int .i64 yl.g, .int .i64 yl.nu, .int .i64 yl.bs, .int .i64 yl.bd, .int .i64 yl.su, .int .i64 yl.o, .int .i64 yl.h] ∧ SlRows inV 1 wr KA KL ∧ KeepsOthers W wr ∧ KeptO N tb W wr ∧ Below tb W wr ∧ M ≤ wr.heap.size
set_option maxRecDepth 100000 in
set_option maxHeartbeats 8000000 in
theorem Breaks_any (nm : ByteArray) (s : Int) (G : List Ga) (D : List Le) (A B : Option Addr) (gn gc dn dc N0 : Nat) (E0 : Int) (T : List Ox) (r : Ru) (AT : Option Addr) (tn tc : Nat) (E1 E : Int) (w : World) (hz : nm.size ≤ 9223372036854775807) (hgn : Hid (gn = G.length)) (hgl : gn ≤ 9223372036854775807) (hdn : Hid (dn = D.length)) (hdl : dn ≤ 9223372036854775807) (hG : Hid (SlRows gaV 2 w A G)) (hD : Hid (SlRows leV 3 w B D)) (hE0 : Hid (plnP nm s G D = (N0, E0)))
    (htn : Hid (tn = T.length)) (htl : tn ≤ 9223372036854775807) (hT : Hid (SlRows oxV 2 w AT T)) (hE1 : Hid (ruE T r = E1)) (hE : Hid (firE [E0, E1] = E)) :
    Calls Try.prog 34 #[.agg #[.string nm, .int .i64 s, .slice A gn gc, .slice B dn dc], .agg #[.slice AT tn tc, .int .i64 r.a, .int .i64 r.b, .int .i64 r.nc, .int .i64 r.dn, .int .i64 r.br, .int .i64 r.em, .int .i64 r.pa, .int .i64 r.sc]] w fun e w' =>
      (¬ E = 0 ∧ e = .returned (.tuple #[.slice none 0 0, .int .i64 E]) ∧ Below w.heap.size w w') ∨
      (E = 0 ∧ ∃ (C : Option Addr) (c : Nat), e = .returned (.tuple #[.slice C (bkL r (legC s G D) (List.range dn)).length c, .int .i64 0]) ∧ SlRows p2V 2 w' C (bkL r (legC s G D) (List.range dn)) ∧ Below w.heap.size w w') := by
  obtain ⟨i0, hi, hz0', hz1', hz2'⟩ := info_partsG infoP9
  have HI := Lib.hid hi
  have HZ0 := Lib.hid hz0'
  have HZ1 := Lib.hid hz1'
  have HZ2 := Lib.hid hz2'
  clear hi hz0' hz1' hz2'
  refine (callsIn_wide (n := 8)).1 ?_
  refine callsIn_of_wp_marks Try.func34 rfl trivial ?_ rfl
  simp only [Try.ntmps34, List.size_toArray, List.length_cons, List.length_nil, Nat.reduceAdd, Nat.reduceSub, Array.replicate_succ, Array.replicate_zero, List.push_toArray, List.append_toArray, List.nil_append, List.cons_append]
  gi_wp2_with fail
  have hb0 : Below w.heap.size w ((w.alloc (.cells #[.string nm, .int .i64 s, .slice A gn gc, .slice B dn dc] 40)).alloc (.cells #[.slice AT tn tc, .int .i64 r.a, .int .i64 r.b, .int .i64 r.nc, .int .i64 r.dn, .int .i64 r.br, .int .i64 r.em, .int .i64 r.pa, .int .i64 r.sc] 26)) := ((Below.refl _ _).alloc (Nat.le_refl _) _).alloc (by simp) _
  have Zr := BlkF.made (B := w.heap.size) (w.alloc (.cells #[.string nm, .int .i64 s, .slice A gn gc, .slice B dn dc] 40)) [.slice AT tn tc, .int .i64 r.a, .int .i64 r.b, .int .i64 r.nc, .int .i64 r.dn, .int .i64 r.br, .int .i64 r.em, .int .i64 r.pa, .int .i64 r.sc] 26 (by simp)
  have hz0 : ((w.alloc (.cells #[.string nm, .int .i64 s, .slice A gn gc, .slice B dn dc] 40)).alloc (.cells #[.slice AT tn tc, .int .i64 r.a, .int .i64 r.b, .int .i64 r.nc, .int .i64 r.dn, .int .i64 r.br, .int .i64 r.em, .int .i64 r.pa, .int .i64 r.sc] 26)).heap.size = w.heap.size + 2 := by simp
  refine ⟨trivial, (callsIn_wide.2 (follow_any nm s G D A B gn gc dn dc N0 E0 _ hz hgn hgl hdn hdl (Lib.hid (hG.out.below hb0)) (Lib.hid (hD.out.below hb0)) hE0)).mono ?_⟩
  rintro e x1 h
  obtain ⟨a0, a1, a2, n2, c2, a3, n3, c3, a4, n4, c4, a5, rfl, hb1, hgood⟩ : ∃ a0 a1 a2 n2 c2 a3 n3 c3 a4 n4 c4 a5, e = .returned (.tuple #[.agg #[.string a0, .int .i64 a1, .slice a2 n2 c2, .slice a3 n3 c3, .slice a4 n4 c4, .int .i64 a5], .int .i64 E0]) ∧ Below ((w.alloc (.cells #[.string nm, .int .i64 s, .slice A gn gc, .slice B dn dc] 40)).alloc (.cells #[.slice AT tn tc, .int .i64 r.a, .int .i64 r.b, .int .i64 r.nc, .int .i64 r.dn, .int .i64 r.br, .int .i64 r.em, .int .i64 r.pa, .int .i64 r.sc] 26)).heap.size ((w.alloc (.cells #[.string nm, .int .i64 s, .slice A gn gc, .slice B dn dc] 40)).alloc (.cells #[.slice AT tn tc, .int .i64 r.a, .int .i64 r.b, .int .i64 r.nc, .int .i64 r.dn, .int .i64 r.br, .int .i64 r.em, .int .i64 r.pa, .int .i64 r.sc] 26)) x1 ∧ (E0 = 0 → (a0 = nm ∧ a1 = s ∧ a2 = A ∧ n2 = gn ∧ c2 = gc ∧ a3 = B ∧ n3 = dn ∧ c3 = dc ∧ n4 = dn + 1) ∧ SlRows ptV 2 x1 a4 (ptL D (dn + 1))) := by
    rcases h with ⟨h0, rfl, hb⟩ | ⟨h0, P, pc, E9, rfl, hP, _, hb⟩
    · exact ⟨_, _, _, _, _, _, _, _, _, _, _, _, rfl, hb, fun e => absurd e h0⟩
    · exact ⟨_, _, _, _, _, _, _, _, _, _, _, _, by rw [h0], hb, fun _ => ⟨⟨rfl, rfl, rfl, rfl, rfl, rfl, rfl, rfl, rfl⟩, hP⟩⟩
  have hB1 : Below w.heap.size w x1 := hb0.trans (hb1.mono hb0.size)
  have Yr := Zr.below (hb1.mono (by simp))
  have hs1 : w.heap.size + 2 ≤ x1.heap.size := by rw [← hz0]; exact hb1.size
  simp only [World.size_alloc] at Yr
  have hgood := Lib.hid hgood
  clear h Zr hb1 hb0 hz0
  obtain ⟨r0, r1, r2, r3, r4, r5, r6, r7, r8⟩ := b9 Yr
  have rl := Yr.lt
  have rne : w.heap.size + 1 ≠ x1.heap.size := by omega
  gi_wp2_with fail
  refine ⟨trivial, callsIn_world (fun X => Below x1.heap.size x1 X ∧ BlkF X w.heap.size x1.heap.size [.string a0, .int .i64 a1, .slice a2 n2 c2, .slice a3 n3 c3, .slice a4 n4 c4, .int .i64 a5]) ⟨?_, ?_⟩ (fun X hX => ?_)⟩
  · exact (Below.refl _ _).alloc (Nat.le_refl _) _
  · exact BlkF.made (B := w.heap.size) x1 [.string a0, .int .i64 a1, .slice a2 n2 c2, .slice a3 n3 c3, .slice a4 n4 c4, .int .i64 a5] 110 hB1.size
  obtain ⟨hbX, Z6⟩ := hX
  have hBX : Below w.heap.size w X := hB1.trans (hbX.mono hB1.size)
  refine (callsIn_wide.2 (CheckRules_any T r AT tn tc E1 X htn htl (Lib.hid (hT.out.below hBX)) hE1)).mono ?_
  rintro e x2 ⟨rfl, hb2⟩
  have hb12 : Below x1.heap.size x1 x2 := hbX.trans (hb2.mono hbX.size)
  have Y6 := Z6.below hb2
  clear hb2 Z6 hbX hBX
  gi_wp2_with fail
  have Z5 := BlkF.made (B := x2.heap.size) x2 [.int .i64 E0, .int .i64 E1] 29 (Nat.le_refl _)
  refine ⟨trivial, (callsIn_wide.2 (cFirstB [E0, E1] _ 0 2 _ rfl (by simp) (by simp) (blk_ints (l := [E0, E1]) Z5))).mono ?_⟩
  rintro e x3 ⟨rfl, hb3⟩
  rw [hE.out]
  have hb23 : Below x2.heap.size x2 x3 := ((Below.refl _ _).alloc (Nat.le_refl _) _).trans (hb3.mono (by simp))
  have V6 := Y6.below hb23
  have hb13 : Below x1.heap.size x1 x3 := hb12.trans (hb23.mono hb12.size)
  have Vr := Yr.below hb13
  have hB3 : Below w.heap.size w x3 := hB1.trans (hb13.mono hB1.size)
  have hs3 := hb13.size
  have hl6 := V6.lt
  clear Z5 hb3 hb23 Y6 hb12 Yr r0 r1 r2 r3 r4 r5 r6 r7 r8 rl rne
  by_cases hEE : ¬ E = 0
  · have hE3 : (E != 0) = true := by simpa using hEE
    gi_wp2
    exact ⟨_, results_tmp2 rfl _ _ _, Or.inl ⟨hEE, rfl, hB3⟩⟩
  obtain rfl : E = 0 := by omega
  obtain ⟨rfl, rfl⟩ : E0 = 0 ∧ E1 = 0 := by
    have := firE_all hE.out
    exact ⟨this _ (by simp), this _ (by simp)⟩
  obtain ⟨⟨rfl, rfl, rfl, rfl, rfl, rfl, rfl, rfl, rfl⟩, hP⟩ := hgood.out rfl
  have hok := Lib.hid (pln_ok hE0.out)
  have hru := ru_ok hE1.out
  have hox := Lib.hid hru.ox
  have HP := Lib.hid hP
  have d60 : n3 ≤ 60 := by have := hok.out.d6; have := hdn.out; omega
  obtain ⟨f0, f1, f2, f3, f4, f5⟩ := b6 V6
  have hrk := Lib.hid hru
  clear hP hgood hru hE
  have fne : x1.heap.size ≠ x3.heap.size := by omega
  gi_wp2_with fail
  refine ⟨trivial, (callsIn_wide.2 (legs_is a0 a1 a2 a3 a4 n2 c2 n3 c3 c4 a5 _)).mono ?_⟩
  rintro e W0 ⟨rfl, hW0⟩
  obtain ⟨tb, htb⟩ : ∃ z, x3.heap.size = z := ⟨_, rfl⟩
  simp only [World.size_alloc, htb] at hW0 ⊢
  have bS : Boxed W0 tb 63 (.slice none 0 0) := by rw [← hW0, ← htb]; exact (Boxed.new x3 63 _).alloc _
  have hsz : W0.heap.size = tb + 2 := by rw [← hW0, ← htb]; simp
  have hbW : Below x3.heap.size x3 W0 := by rw [← hW0]; exact ((Below.refl _ _).alloc (Nat.le_refl _) _).alloc (by simp) _
  have ZF : BlkF W0 w.heap.size (tb + 1) [.string a0, .int .i64 a1, .slice a2 n2 c2, .slice a3 n3 c3, .slice a4 (n3 + 1) c4, .int .i64 a5] := by
    rw [← hW0]
    have := BlkF.made (B := w.heap.size) (x3.alloc (.cells #[.slice none 0 0] 63)) [.string a0, .int .i64 a1, .slice a2 n2 c2, .slice a3 n3 c3, .slice a4 (n3 + 1) c4, .int .i64 a5] 110 (by have := hB3.size; simp; omega)
    simpa [htb] using this
  clear hW0
  have hb1W : Below x1.heap.size x1 W0 := hb13.trans (hbW.mono hb13.size)
  have hBW : Below w.heap.size w W0 := hB1.trans (hb1W.mono hB1.size)
  have WR := Vr.below (hbW)
  have rl1 : w.heap.size + 1 < tb := by omega
  obtain ⟨bs, hbs0⟩ : ∃ bs, bs = (tb + 1) :: (bsO a2 G ++ bsO a3 D ++ bsO a4 (ptL D (n3 + 1))) := ⟨_, rfl⟩
  have hM : FolM bs (tb + 1) a0 a1 G D a2 a3 a4 n2 c2 n3 c3 c4 a5 W0 := by
    obtain ⟨e0, e1, e2, e3, e4, e5⟩ := b6 ZF
    exact ⟨by rw [hbs0]; simp, ZF.lt, e0, e1, e2, e3, e4, e5, slk_of (hG.out.below hBW) (fun b hb => by rw [hbs0]; simp [hb]), slk_of (hD.out.below hBW) (fun b hb => by rw [hbs0]; simp [hb]), slk_of (HP.out.below hb1W) (fun b hb => by rw [hbs0]; simp [hb])⟩
  have hbs : ∀ b ∈ bs, b < W0.heap.size ∧ b ≠ tb := by
    intro b hb
    rw [hbs0] at hb
    simp only [List.mem_cons, List.mem_append] at hb
    rcases hb with rfl | (hb | hb) | hb
    · omega
    · have := bsO_lt hG.out b hb; omega
    · have := bsO_lt hD.out b hb; omega
    · have := bsO_lt HP.out b hb; omega
  have HTT : Hid (SlRows oxV 2 W0 AT T) := Lib.hid (hT.out.below hBW)
  have hTtb : ∀ ad, AT = some ad → T ≠ [] → ad.block < tb := fun ad had hne => by
    rcases hT.out with h | ⟨b, off, rfl, hl, _⟩
    · exact absurd h hne
    · cases had; simp; omega
  obtain ⟨N, hN⟩ : ∃ N, W0.heap.size = N := ⟨_, rfl⟩
  clear hbs0 ZF V6 Vr f0 f1 f2 f3 f4 f5 hb13 hbW hb1W
  gi_wp2
  refine wpIn_rangeFunc_ownH rfl (by decide) (gf := 106) (lb := #[.pointer (some ⟨tb + 1, 0, none⟩)]) rfl trivial (enters_of Try.func106 (by kernel_rfl) rfl)
    (legs_stops _ (by decide) bs (tb + 1) a0 a1 G D a2 a3 a4 n2 c2 n3 c3 c4 a5 W0 hgn hdn hok hM) KpB.trans (fun W l o o' hl h a b => KpB.put (N := W0.heap.size) (fun b hb => (hbs b hb).1) W l o o' hl h a b) (Below.refl _ _) (fun _ => rfl)
    (fun pre W => ((∃ v, Boxed W tb 63 v ∧ W.ownsRow N 69 2 v (bkL r (legC a1 G D) pre).length (rowsV p2V (bkL r (legC a1 G D) pre)) ∧ True) ∧ KeptO N tb W0 W) ∧ Below tb W0 W)
    (fun _ _ _ => False)
    (OwnFrom.and (OwnFrom.and (Own.from (holdsRow_own N tb 63 69 2 (fun (pre : List Nat) => (bkL r (legC a1 G D) pre).length) (fun (pre : List Nat) => rowsV p2V (bkL r (legC a1 G D) pre)) (fun _ _ => True)) _) (keptO_own (by omega) (by omega))) (ownFrom_below (by omega) (by omega)))
    (fun _ _ _ _ _ hs _ _ => hs)
    ⟨⟨⟨_, bS, ⟨rfl, .inl ⟨rfl, rfl⟩⟩, trivial⟩, KeptO.refl _ _ _⟩, Below.refl _ _⟩
    (fun x a' W => ∃ Bx t0 t1 t2 t4 t5 t6 t7 t10 t11 t12 t13 t14 t15 t16 t17 t18 t19 t20 t21 t22 t23 t24 t25 t26 t27 t28 t29 t30 t31 t32 t33 t34 t35 t36 t37 t38 t39 t40 t41 t42 t43 t44 t45 t46 t47 t48 t49, (N ≤ Bx ∧ ∀ v, Boxed W tb 63 v → True) ∧ BoxN W Bx 119 [.int .i64 (legC a1 G D x).s, .int .i64 (legC a1 G D x).d, .int .i64 (legC a1 G D x).g, .int .i64 (legC a1 G D x).nu, .int .i64 (legC a1 G D x).bs, .int .i64 (legC a1 G D x).bd, .int .i64 (legC a1 G D x).su, .int .i64 (legC a1 G D x).o, .int .i64 (legC a1 G D x).h] ∧ a' = { tmps := #[t0, t1, t2, .pointer (some ⟨w.heap.size + 1, 0, none⟩), t4, t5, t6, t7, .pointer (some ⟨tb, 0, none⟩), .pointer (some ⟨Bx, 0, none⟩), t10, t11, t12, t13, t14, t15, t16, t17, t18, t19, t20, t21, t22, t23, t24, t25, t26, t27, t28, t29, t30, t31, t32, t33, t34, t35, t36, t37, t38, t39, t40, t41, t42, t43, t44, t45, t46, t47, t48, t49], defers := [] })
    (fun x a' _ X Y row hs hg hr => by obtain ⟨Bx, t0, t1, t2, t4, t5, t6, t7, t10, t11, t12, t13, t14, t15, t16, t17, t18, t19, t20, t21, t22, t23, t24, t25, t26, t27, t28, t29, t30, t31, t32, t33, t34, t35, t36, t37, t38, t39, t40, t41, t42, t43, t44, t45, t46, t47, t48, t49, h1, h2, h3⟩ := hs; exact ⟨Bx, t0, t1, t2, t4, t5, t6, t7, t10, t11, t12, t13, t14, t15, t16, t17, t18, t19, t20, t21, t22, t23, t24, t25, t26, t27, t28, t29, t30, t31, t32, t33, t34, t35, t36, t37, t38, t39, t40, t41, t42, t43, t44, t45, t46, t47, t48, t49, ⟨h1.1, fun _ _ => trivial⟩, boxN_own Bx 119 (fun (_ : Unit) => [.int .i64 (legC a1 G D x).s, .int .i64 (legC a1 G D x).d, .int .i64 (legC a1 G D x).g, .int .i64 (legC a1 G D x).nu, .int .i64 (legC a1 G D x).bs, .int .i64 (legC a1 G D x).bd, .int .i64 (legC a1 G D x).su, .int .i64 (legC a1 G D x).o, .int .i64 (legC a1 G D x).h]) () X Y row h2 hg (fun r e => (hr r e).2), h3⟩)
    ?assign ?body ?done ?stop
  case assign =>
    rintro l pre x W K hi hK
    have hko := hi.1.2
    have hNW : N ≤ W.heap.size := by rw [← hN]; exact hko.size
    gi_wp2
    have HB9 : BoxN (W.alloc (.cells #[.int .i64 (legC a1 G D x).s, .int .i64 (legC a1 G D x).d, .int .i64 (legC a1 G D x).g, .int .i64 (legC a1 G D x).nu, .int .i64 (legC a1 G D x).bs, .int .i64 (legC a1 G D x).bd, .int .i64 (legC a1 G D x).su, .int .i64 (legC a1 G D x).o, .int .i64 (legC a1 G D x).h] 119)) W.heap.size 119 [.int .i64 (legC a1 G D x).s, .int .i64 (legC a1 G D x).d, .int .i64 (legC a1 G D x).g, .int .i64 (legC a1 G D x).nu, .int .i64 (legC a1 G D x).bs, .int .i64 (legC a1 G D x).bd, .int .i64 (legC a1 G D x).su, .int .i64 (legC a1 G D x).o, .int .i64 (legC a1 G D x).h] := BoxN.new W 119 [.int .i64 (legC a1 G D x).s, .int .i64 (legC a1 G D x).d, .int .i64 (legC a1 G D x).g, .int .i64 (legC a1 G D x).nu, .int .i64 (legC a1 G D x).bs, .int .i64 (legC a1 G D x).bd, .int .i64 (legC a1 G D x).su, .int .i64 (legC a1 G D x).o, .int .i64 (legC a1 G D x).h]
    have hb9 : Below W.heap.size W (W.alloc (.cells #[.int .i64 (legC a1 G D x).s, .int .i64 (legC a1 G D x).d, .int .i64 (legC a1 G D x).g, .int .i64 (legC a1 G D x).nu, .int .i64 (legC a1 G D x).bs, .int .i64 (legC a1 G D x).bd, .int .i64 (legC a1 G D x).su, .int .i64 (legC a1 G D x).o, .int .i64 (legC a1 G D x).h] 119)) := (Below.refl _ _).alloc (Nat.le_refl _) _
    refine hK _ _ (keepsFrom_below _ hb9) ((KeptO.of_below (N := N) (t := tb) (hb9.mono hNW)).kpB (by rw [← hN]; exact hbs)) ?_ ⟨W.heap.size, _, _, _, _, _, _, _, _, _, _, _, _, _, _, _, _, _, _, _, _, _, _, _, _, _, _, _, _, _, _, _, _, _, _, _, _, _, _, _, _, _, _, _, _, _, _, _, ⟨hNW, fun _ _ => trivial⟩, HB9, rfl⟩
    obtain ⟨⟨⟨v, hv, hrow, _⟩, hko⟩, hbl⟩ := hi
    exact ⟨⟨⟨v, hv.below' hb9, own_belowG hrow hb9 (Nat.le_refl _), trivial⟩, hko.trans (KeptO.of_below (hb9.mono hNW))⟩, hbl.trans (hb9.mono (by omega))⟩
  case body =>
    rintro l pre x a' W hl hr ⟨⟨⟨v, hbv, hrow, _⟩, hko⟩, hbl⟩ ⟨Bx, t0, t1, t2, t4, t5, t6, t7, t10, t11, t12, t13, t14, t15, t16, t17, t18, t19, t20, t21, t22, t23, t24, t25, t26, t27, t28, t29, t30, t31, t32, t33, t34, t35, t36, t37, t38, t39, t40, t41, t42, t43, t44, t45, t46, t47, t48, t49, hBx, HB9, rfl⟩ hlen
    replace hBx := hBx.1
    have hyo0 := legC_ok hok.out x
    obtain ⟨yl, hy⟩ : ∃ z, Hid (legC a1 G D x = z) := ⟨_, Lib.hid rfl⟩
    rw [hy.out] at HB9 hyo0
    obtain ⟨L, hL⟩ : ∃ z, Hid (bkL r (legC a1 G D) pre = z) := ⟨_, Lib.hid rfl⟩
    have hsn := bkL_snoc r (legC a1 G D) pre x
    have hl9 := bkL_len r (legC a1 G D) _ pre rfl
    rw [hy.out, hL.out] at hsn
    rw [hL.out] at hrow hl9
    have HSN := Lib.hid hsn
    obtain ⟨A4, c4, rfl, hS4, _, _, _, _⟩ := SlRows_own (f := p2V) (n := 2) (L := L) (fun _ => rfl) hrow
    obtain ⟨ll, hll⟩ : ∃ z, Hid (L.length = z) := ⟨_, Lib.hid rfl⟩
    have hll60 : ll ≤ 240 := by have h1 := hll.out; omega
    rw [hll.out] at hrow hbv
    have hNW : N ≤ W.heap.size := by rw [← hN]; exact hko.size
    have hbx2 := HB9.lt
    have htN : tb < N := by omega
    have htb2 : tb < W.heap.size := by omega
    have hrb : w.heap.size + 1 < W.heap.size := by omega
    rw [hN] at hbs
    obtain ⟨lo9, hlo9⟩ : ∃ z, Hid (min yl.bd yl.d = z) := ⟨_, Lib.hid rfl⟩
    obtain ⟨hi9, hhi9⟩ : ∃ z, Hid (max yl.bd yl.d = z) := ⟨_, Lib.hid rfl⟩
    obtain ⟨KL, hKL9⟩ : ∃ z, Hid (brkL r yl.o yl.h yl.su (yl.su + lo9) (yl.su + hi9) = z) := ⟨_, Lib.hid rfl⟩
    have hKL : Hid (bkOf r yl = KL) := Lib.hid (by unfold bkOf; rw [hlo9.out, hhi9.out]; exact hKL9.out)
    have hK4 : KL.length ≤ 4 := by rw [← hKL9.out]; exact brkL_len _ _ _ _ _ _
    have hlm := limE_bd2 hrk.out.lm
    have ra0 := hlm.1.1
    have ra1 := hlm.1.2
    have rb0 := hlm.2.1
    have rb1 := hlm.2.2
    have hgy := Lib.hid hyo0.ga
    have s0 := hyo0.su.1
    have s1 := hyo0.su.2
    have ybd := hyo0.bd
    have yd := hyo0.d
    have lo0 : 0 ≤ lo9 := by have := hlo9.out; omega
    have lo1 : lo9 ≤ 30000 := by have := hlo9.out; omega
    have hi0 : 0 ≤ hi9 := by have := hhi9.out; omega
    have hi1 : hi9 ≤ 30000 := by have := hhi9.out; omega
    obtain ⟨m9, hm9⟩ : ∃ z, Hid (KL.length = z) := ⟨_, Lib.hid rfl⟩
    rw [hm9.out] at hK4
    obtain ⟨l0, l1, l2, l3, l4, l5, l6, l7, l8⟩ := b9 (HB9.blk (N := 0) (Nat.zero_le _))
    have w0 : W.cell? ⟨w.heap.size + 1, 0, none⟩ = some (.slice AT tn tc) := (hko.cell (by omega) (by omega) 0).trans (WR.at' 0 _ rfl)
    have w1 : W.cell? ⟨w.heap.size + 1, 1, none⟩ = some (.int .i64 r.a) := (hko.cell (by omega) (by omega) 1).trans (WR.at' 1 _ rfl)
    have w2 : W.cell? ⟨w.heap.size + 1, 2, none⟩ = some (.int .i64 r.b) := (hko.cell (by omega) (by omega) 2).trans (WR.at' 2 _ rfl)
    have w3 : W.cell? ⟨w.heap.size + 1, 3, none⟩ = some (.int .i64 r.nc) := (hko.cell (by omega) (by omega) 3).trans (WR.at' 3 _ rfl)
    have w4 : W.cell? ⟨w.heap.size + 1, 4, none⟩ = some (.int .i64 r.dn) := (hko.cell (by omega) (by omega) 4).trans (WR.at' 4 _ rfl)
    have w5 : W.cell? ⟨w.heap.size + 1, 5, none⟩ = some (.int .i64 r.br) := (hko.cell (by omega) (by omega) 5).trans (WR.at' 5 _ rfl)
    have w6 : W.cell? ⟨w.heap.size + 1, 6, none⟩ = some (.int .i64 r.em) := (hko.cell (by omega) (by omega) 6).trans (WR.at' 6 _ rfl)
    have w7 : W.cell? ⟨w.heap.size + 1, 7, none⟩ = some (.int .i64 r.pa) := (hko.cell (by omega) (by omega) 7).trans (WR.at' 7 _ rfl)
    have w8 : W.cell? ⟨w.heap.size + 1, 8, none⟩ = some (.int .i64 r.sc) := (hko.cell (by omega) (by omega) 8).trans (WR.at' 8 _ rfl)
    have HS : Hid (∀ y, Below W.heap.size W y → y.cell? ⟨Bx, 0, none⟩ = some (.int .i64 yl.s) ∧ y.cell? ⟨Bx, 1, none⟩ = some (.int .i64 yl.d) ∧ y.cell? ⟨Bx, 2, none⟩ = some (.int .i64 yl.g) ∧ y.cell? ⟨Bx, 3, none⟩ = some (.int .i64 yl.nu) ∧ y.cell? ⟨Bx, 4, none⟩ = some (.int .i64 yl.bs) ∧ y.cell? ⟨Bx, 5, none⟩ = some (.int .i64 yl.bd) ∧ y.cell? ⟨Bx, 6, none⟩ = some (.int .i64 yl.su) ∧ y.cell? ⟨Bx, 7, none⟩ = some (.int .i64 yl.o) ∧ y.cell? ⟨Bx, 8, none⟩ = some (.int .i64 yl.h) ∧ y.cell? ⟨w.heap.size + 1, 0, none⟩ = some (.slice AT tn tc) ∧ y.cell? ⟨w.heap.size + 1, 1, none⟩ = some (.int .i64 r.a) ∧ y.cell? ⟨w.heap.size + 1, 2, none⟩ = some (.int .i64 r.b) ∧ y.cell? ⟨w.heap.size + 1, 3, none⟩ = some (.int .i64 r.nc) ∧ y.cell? ⟨w.heap.size + 1, 4, none⟩ = some (.int .i64 r.dn) ∧ y.cell? ⟨w.heap.size + 1, 5, none⟩ = some (.int .i64 r.br) ∧ y.cell? ⟨w.heap.size + 1, 6, none⟩ = some (.int .i64 r.em) ∧ y.cell? ⟨w.heap.size + 1, 7, none⟩ = some (.int .i64 r.pa) ∧ y.cell? ⟨w.heap.size + 1, 8, none⟩ = some (.int .i64 r.sc)) := Lib.hid fun y hy => ⟨(hy.cell (p := ⟨Bx, 0, none⟩) hbx2).trans l0, (hy.cell (p := ⟨Bx, 1, none⟩) hbx2).trans l1, (hy.cell (p := ⟨Bx, 2, none⟩) hbx2).trans l2, (hy.cell (p := ⟨Bx, 3, none⟩) hbx2).trans l3, (hy.cell (p := ⟨Bx, 4, none⟩) hbx2).trans l4, (hy.cell (p := ⟨Bx, 5, none⟩) hbx2).trans l5, (hy.cell (p := ⟨Bx, 6, none⟩) hbx2).trans l6, (hy.cell (p := ⟨Bx, 7, none⟩) hbx2).trans l7, (hy.cell (p := ⟨Bx, 8, none⟩) hbx2).trans l8, (hy.cell (p := ⟨w.heap.size + 1, 0, none⟩) hrb).trans w0, (hy.cell (p := ⟨w.heap.size + 1, 1, none⟩) hrb).trans w1, (hy.cell (p := ⟨w.heap.size + 1, 2, none⟩) hrb).trans w2, (hy.cell (p := ⟨w.heap.size + 1, 3, none⟩) hrb).trans w3, (hy.cell (p := ⟨w.heap.size + 1, 4, none⟩) hrb).trans w4, (hy.cell (p := ⟨w.heap.size + 1, 5, none⟩) hrb).trans w5, (hy.cell (p := ⟨w.heap.size + 1, 6, none⟩) hrb).trans w6, (hy.cell (p := ⟨w.heap.size + 1, 7, none⟩) hrb).trans w7, (hy.cell (p := ⟨w.heap.size + 1, 8, none⟩) hrb).trans w8⟩
    clear l0 l1 l2 l3 l4 l5 l6 l7 l8 w0 w1 w2 w3 w4 w5 w6 w7 w8 hS4 hsn hlen hr hyo0 hl9 hlm ybd yd
    refine wpIn_block ?_
    gi_upto_region 8 with (fail)
    refine wpIn_np ?_
    refine wpIn_round_held (S := (fun w' => w'.cell? ⟨Bx, 0, none⟩ = some (.int .i64 yl.s) ∧ w'.cell? ⟨Bx, 1, none⟩ = some (.int .i64 yl.d) ∧ w'.cell? ⟨Bx, 2, none⟩ = some (.int .i64 yl.g) ∧ w'.cell? ⟨Bx, 3, none⟩ = some (.int .i64 yl.nu) ∧ w'.cell? ⟨Bx, 4, none⟩ = some (.int .i64 yl.bs) ∧ w'.cell? ⟨Bx, 5, none⟩ = some (.int .i64 yl.bd) ∧ w'.cell? ⟨Bx, 6, none⟩ = some (.int .i64 yl.su) ∧ w'.cell? ⟨Bx, 7, none⟩ = some (.int .i64 yl.o) ∧ w'.cell? ⟨Bx, 8, none⟩ = some (.int .i64 yl.h) ∧ w'.cell? ⟨w.heap.size + 1, 0, none⟩ = some (.slice AT tn tc) ∧ w'.cell? ⟨w.heap.size + 1, 1, none⟩ = some (.int .i64 r.a) ∧ w'.cell? ⟨w.heap.size + 1, 2, none⟩ = some (.int .i64 r.b) ∧ w'.cell? ⟨w.heap.size + 1, 3, none⟩ = some (.int .i64 r.nc) ∧ w'.cell? ⟨w.heap.size + 1, 4, none⟩ = some (.int .i64 r.dn) ∧ w'.cell? ⟨w.heap.size + 1, 5, none⟩ = some (.int .i64 r.br) ∧ w'.cell? ⟨w.heap.size + 1, 6, none⟩ = some (.int .i64 r.em) ∧ w'.cell? ⟨w.heap.size + 1, 7, none⟩ = some (.int .i64 r.pa) ∧ w'.cell? ⟨w.heap.size + 1, 8, none⟩ = some (.int .i64 r.sc))) (by kernel_rfl) (by kernel_rfl) not_letsOut_np (HS.out _ (Below.refl _ _).drew) (fun hHeld => ?_)
    have hT0 : Below W.heap.size W W.drew := (Below.refl _ _).drew
    generalize hdr : W.drew = v0 at *
    clear hdr
    refine tkH 0 ⟨some 28, _, _, _, _, _⟩ ?_ rfl ?_ (by assumption) ?_
    rotate_left
    · (intro w hSw; (try dsimp only at hSw); go_simp; all_goals with_reducible rfl)
    try simp only [Act.put, sA, sB, sC]
    refine tkH 1 ⟨some 29, _, _, _, _, _⟩ ?_ rfl ?_ (by assumption) ?_
    rotate_left
    · (intro w hSw; (try dsimp only at hSw); go_simp; all_goals with_reducible rfl)
    try simp only [Act.put, sA, sB, sC]
    refine tkH 2 ⟨some 30, _, _, _, _, _⟩ ?_ rfl ?_ (by assumption) ?_
    rotate_left
    · (intro w hSw; (try dsimp only at hSw); go_simp; all_goals with_reducible rfl)
    try simp only [Act.put, sA, sB, sC]
    refine tkH 3 ⟨some 31, _, _, _, _, _⟩ ?_ rfl ?_ (by assumption) ?_
    rotate_left
    · (intro w hSw; (try dsimp only at hSw); go_simp; all_goals with_reducible rfl)
    try simp only [Act.put, sA, sB, sC]
    refine tkH 4 ⟨some 32, _, _, _, _, _⟩ ?_ rfl ?_ (by assumption) ?_
    rotate_left
    · (intro w hSw; (try dsimp only at hSw); go_simp; all_goals with_reducible rfl)
    try simp only [Act.put, sA, sB, sC]
    refine tkH 6 ⟨some 34, _, _, _, _, _⟩ ?_ rfl ?_ (by assumption) ?_
    rotate_left
    · (intro w hSw; (try dsimp only at hSw); go_simp; all_goals with_reducible rfl)
    try simp only [Act.put, sA, sB, sC]
    refine tkH 9 ⟨some 37, _, _, _, _, _⟩ ?_ rfl ?_ (by assumption) ?_
    rotate_left
    · (intro w hSw; (try dsimp only at hSw); go_simp; all_goals with_reducible rfl)
    try simp only [Act.put, sA, sB, sC]
    refine wpAnyH_ready (rs := [5]) (by kernel_rfl) (by simp) ?_
    refine AllReadyH.cons rfl (fun K hK => ?_) (AllReadyH.nil)
    go_simp
    refine (depths_is yl lo9 hi9 _ hlo9 hhi9).mono ?_
    rintro e v1 ⟨rfl, hbv0⟩
    have hT1 : Below W.heap.size W v1 := hT0.trans (hbv0.mono hT0.size)
    clear hbv0
    go_wp2_with fail
    refine hK.out _ _ (HS.out _ hT1) (fun hHeld => ?_)
    clear hK K
    try simp only [Act.put, sA, sB, sC]
    refine wpAnyH_ready (rs := [7]) (by kernel_rfl) (by simp) ?_
    refine AllReadyH.cons rfl (fun K hK => ?_) (AllReadyH.nil)
    go_simp
    refine (kindsOf_is yl.o yl.h yl.su lo9 hi9 r AT tn tc KL _ hgy s0 s1 lo0 lo1 hi0 hi1 ra0 ra1 rb0 rb1 hKL9).mono ?_
    rintro e v2 ⟨KA, kc, rfl, hsK, hge, hbv1⟩
    have hT2 : Below W.heap.size W v2 := hT1.trans (hbv1.mono hT1.size)
    have HK := Lib.hid hsK
    have HKG : Hid (∀ ad, KA = some ad → W.heap.size ≤ ad.block) := Lib.hid (fun ad h => Nat.le_trans (Below.size hT1) (hge ad h))
    clear hsK hge
    rw [hm9.out]
    clear hbv1
    go_wp2_with fail
    refine hK.out _ _ (HS.out _ hT2) (fun hHeld => ?_)
    clear hK K
    try simp only [Act.put, sA, sB, sC]
    refine tkH 8 ⟨some 36, _, _, _, _, _⟩ ?_ rfl ?_ (by assumption) ?_
    rotate_left
    · (intro w hSw; (try dsimp only at hSw); go_simp; all_goals with_reducible rfl)
    try simp only [Act.put, sA, sB, sC]
    refine wpAnyH_done (by kernel_rfl) ?_ _
    have hT := hT2
    obtain ⟨u, rfl⟩ : ∃ z, z = v2 := ⟨_, rfl⟩
    clear hHeld HS
    obtain ⟨M, hM9⟩ : ∃ z, u.heap.size = z := ⟨_, rfl⟩
    have hTs := hT.size
    have hKM : Hid (∀ ad, KA = some ad → KL ≠ [] → ad.block < M) := Lib.hid (fun ad h hne => by
      rcases HK.out with h2 | ⟨b, off, h2, hl, _⟩
      · exact absurd h2 hne
      · rw [h] at h2; cases h2; rw [← hM9]; exact hl)
    have kU1 : KeepsOthers W u := ⟨hT.size, fun k o hk _ => (hT.block k (Array.getElem?_eq_some_iff.1 hk).1).trans hk⟩
    have HIV : Hid (BkI M N tb Bx W KA KL L yl 0 ll A4 c4 u) := Lib.hid (by unfold BkI; exact ⟨hbv.below' hT, by rw [List.take_zero, List.map_nil, List.append_nil]; exact own_belowG hrow hT (Nat.le_refl _), fun k hk => Or.inl (own_blockG hrow k hk).2, HB9.belowN hT hbx2, HK.out, kU1, KeptO.of_below (hT.mono hNW), hT.mono (by omega), by omega⟩)
    have hln0 : Hid (BkN KL L yl 0 = ll) := Lib.hid (by unfold BkN; rw [List.take_zero, List.map_nil, List.append_nil]; exact hll.out)
    clear kU1 hT HK hbv hrow HB9 hTs
    gi_wp2
    gi_loopw [37] (fun i wr => ∃ (j n : Nat) (C : Option Addr) (c : Nat), j ≤ m9 ∧ i = .int .i64 j ∧ Hid (BkN KL L yl j = n) ∧ Hid (BkI M N tb Bx W KA KL L yl j n C c wr)) (fun i _ => m9 - (intOf i).toNat)
    case atStart => exact ⟨0, ll, A4, c4, by omega, rfl, hln0, HIV⟩
    case round =>
      clear hln0 HIV
      obtain ⟨j, n, C, c, hj, rfl, hnl, HIV⟩ := hrel
      obtain ⟨bX, rX, oX, xX, sX, kX1, kX2, kX3, hMw⟩ := HIV.out
      unfold BkN at hnl
      have hnn : n ≤ 244 := by
        have h := hnl.out
        rw [List.length_append, List.length_map, List.length_take] at h
        have := hll.out
        omega
      have lbX := bX.lt
      have lxX := xX.lt
      by_cases hjm : j < m9
      · obtain ⟨XS, hXS⟩ : ∃ z, Hid ((L ++ (KL.take j).map fun k => (yl.nu, k)) = z) := ⟨_, Lib.hid rfl⟩
        rw [hXS.out] at rX hnl
        have kn : (j : Int) < (m9 : Int) := by omega
        have k0 : ¬ (j : Int) < 0 := by omega
        have kK : j < KL.length := by have := hm9.out; omega
        obtain ⟨kj, hkj⟩ : ∃ z, Hid (KL[j] = z) := ⟨_, Lib.hid rfl⟩
        obtain ⟨kb, ko, hKA, lk, rk⟩ := sX.at' kK
        have ck : wr.cell? ⟨kb, ko + j, none⟩ = some (.int .i64 kj) := by
          have h := rk j kK 0 (by omega)
          rw [show (inV KL[j])[0]? = some (.int .i64 kj) by rw [← hkj.out]; rfl, show ko + j * 1 + 0 = ko + j by omega] at h
          exact h
        have hKA' := hKA
        subst hKA
        have wj : IntKind.i64.wrap ((j : Int) + 1) = (j : Int) + 1 := IntWalk.i64_in _ (by omega)
        have hwk : wrap64 ((j : Int) + 1) = (j : Int) + 1 := (IntWalk.i64_left _).symm.trans (IntWalk.i64_in _ (by omega))
        obtain ⟨l0, l1, l2, l3, l4, l5, l6, l7, l8⟩ := b9 (xX.blk (N := 0) (Nat.zero_le _))
        have cb := bX.cell
        have hKb1 := HKG.out _ rfl
        have hKb2 := hKM.out _ rfl (by intro e; rw [e] at kK; simp at kK)
        have hKb1' : W.heap.size ≤ kb := hKb1
        have hKb2' : kb < M := hKb2
        clear hKb1 hKb2 rk hKA'
        gi_wp2_with (gi_at_builtin; refine wpListIn_append_at _ rfl _ _ 63 rfl N 69 i0 (.agg #[.int .i64 0, .int .i64 0]) 2 16 Try.underlying63 HI.out HZ0.out HZ1.out HZ2.out rfl (by decide) (.slice C n c) n (rowsV p2V XS) rfl (own_belowG rX ((Below.refl _ _).alloc (Nat.le_refl _) _) (Nat.le_refl _)) ⟨wr.heap.size, 0, none⟩ 1 1 [.int .i64 yl.nu, .int .i64 kj] rfl rfl (fun j v hj => by rw [addNR, Nat.zero_add]; exact (BlkF.made (B := 0) wr [.int .i64 yl.nu, .int .i64 kj] 69 (Nat.zero_le _)).at' j v hj) (by intro v hv; simp at hv; rcases hv with rfl | rfl <;> rfl) (by unfold maxLen; omega) (by omega) (by simp; omega) ?_)
        intro rv X0 hown hgrow hblk
        have hbT : Below wr.heap.size wr (wr.alloc (.cells #[.int .i64 yl.nu, .int .i64 kj] 69)) := (Below.refl _ _).alloc (Nat.le_refl _) _
        obtain ⟨k1, k2, k3, k4, k5, k6⟩ := box_append (W := wr.alloc (.cells #[.int .i64 yl.nu, .int .i64 kj] 69)) (bX.below' hbT) (by decide) (own_belowG rX hbT (Nat.le_refl _)) (by simp; omega) (by omega) hown hgrow
        have hxs : Hid ((L ++ (KL.take (j + 1)).map fun k => (yl.nu, k)) = XS ++ [(yl.nu, kj)]) := Lib.hid (by rw [← hXS.out, List.take_add_one, List.getElem?_eq_getElem kK, hkj.out, List.map_append, List.append_assoc]; rfl)
        obtain ⟨lq, hlq⟩ : ∃ z, Hid (((L ++ (KL.take (j + 1)).map fun k => (yl.nu, k))).length = z) := ⟨_, Lib.hid rfl⟩
        have hlq2 : n + 1 = lq := by rw [← hlq.out, hxs.out, List.length_append, hnl.out]; rfl
        obtain ⟨A5, c5, hrv, hz1, hz2, hz3, hz4, hz5⟩ := SlRows_own (f := p2V) (n := 2) (L := (L ++ (KL.take (j + 1)).map fun k => (yl.nu, k))) (fun _ => rfl) (by rw [hxs.out, rowsV_appG, List.length_append, hnl.out]; exact hown)
        clear hz1 hz2 hz3 hz4 hz5
        rw [hlq.out] at hrv
        subst hrv
        have hsX := hgrow.size
        have rne : ∀ b, W.heap.size ≤ b → b < M → some b ≠ (Value.slice C n c).ownBlock := fun b h1 h2 e => by have := oX b e.symm; omega
        have rneX := xX.not_row (by decide) rX
        have xX0 : BoxN X0 Bx 119 [.int .i64 yl.s, .int .i64 yl.d, .int .i64 yl.g, .int .i64 yl.nu, .int .i64 yl.bs, .int .i64 yl.bd, .int .i64 yl.su, .int .i64 yl.o, .int .i64 yl.h] := (hgrow.block Bx (by simp; omega) rneX).trans (xX.belowN hbT xX.lt)
        have HI2 : Hid (BkI M N tb Bx W (some ⟨kb, ko, none⟩) KL L yl (j + 1) lq A5 c5 (X0.setCell ⟨tb, 0, none⟩ (.slice A5 lq c5))) := Lib.hid (by
          have hs0 : wr.heap.size ≤ X0.heap.size := by simp at hsX; omega
          have hs3 : (X0.setCell ⟨tb, 0, none⟩ (.slice A5 lq c5)).heap.size = X0.heap.size := by simp
          unfold BkI
          refine ⟨k2, ?_, ?_, ?_, ?_, ?_, ?_, ?_, by rw [hs3]; omega⟩
          · rw [hxs.out, rowsV_appG, ← hlq2]
            rw [← hlq2] at k3
            exact k3
          · intro b hb
            rcases hblk b hb with h | h
            · exact oX b h
            · right; first | omega | (simp at h; omega)
          · exact (Below.heap_setCell _ _ _ Bx (by show Bx ≠ tb; omega)).trans xX0
          · refine sl_same sX (by rw [hs3]; exact hs0) (fun ad had _ => ?_)
            cases had
            exact ((Below.heap_setCell _ _ _ kb (by show kb ≠ tb; omega)).trans (hgrow.block kb (by simp; omega) (rne kb hKb1' hKb2'))).trans (hbT.block kb lk)
          · have kT : KeepsOthers wr (wr.alloc (.cells #[.int .i64 yl.nu, .int .i64 kj] 69)) := ⟨by simp, fun k o hk _ => (hbT.block k (Array.getElem?_eq_some_iff.1 hk).1).trans hk⟩
            exact (kX1.trans kT).trans k4
          · exact (kX2.trans (KeptO.of_below (hbT.mono (by omega)))).trans k6
          · exact (kX3.trans (hbT.mono (by omega))).trans k5)
        have c0 := k1.cell
        have cf := k1.frozen
        have HLQ : Hid (BkN KL L yl (j + 1) = lq) := Lib.hid (by unfold BkN; exact hlq.out)
        clear hlq2 hlq hnl hXS
        clear k1 k2 k3 k4 k5 k6 hown hgrow hblk bX rX oX xX sX kX1 kX2 kX3 l0 l1 l2 l3 l4 l5 l6 l7 l8 ck cb xX0 rne rneX hsX hbT HIV
        gi_upto_region 12 with (fail)
        refine ex_world (fun X => BkI M N tb Bx W (some ⟨kb, ko, none⟩) KL L yl (j + 1) lq A5 c5 X) HI2.out (fun X9 hX9 => ?_)
        have HI3 := Lib.hid hX9
        clear hwk HI2 c0 cf hX9 ra0 ra1 rb0 rb1 lo0 lo1 hi0 hi1 s0 s1 hrb hll60 hnn lbX lxX hK4 hMw hKb1' hKb2' hxs hkj hM9 hbs
        gi_wp2
        go_roundw
        case rel => exact ⟨j + 1, lq, A5, c5, by omega, by go_num, HLQ, HI3⟩
        case measure => simp [intOf]; omega
      · have kn : ¬ (j : Int) < (m9 : Int) := by omega
        have hfin : Hid (bkL r (legC a1 G D) (pre ++ [x]) = (L ++ (KL.take j).map fun k => (yl.nu, k))) := Lib.hid (by
          rw [HSN.out, hKL.out, show j = KL.length by have := hm9.out; omega, List.take_length])
        have hl9 : (bkL r (legC a1 G D) (pre ++ [x])).length = n := by rw [hfin.out]; exact hnl.out
        have HL9 := Lib.hid hl9
        clear hl9 lbX lxX hnn
        gi_wp2
        refine ⟨kX1.from _, kX2.kpB hbs, ?_⟩
        dsimp only
        rw [HL9.out, hfin.out]
        first | exact ⟨⟨⟨_, bX, rX, trivial⟩, hko.trans kX2⟩, hbl.trans kX3⟩ | exact ⟨⟨⟨_, bX, rX⟩, hko.trans kX2⟩, hbl.trans kX3⟩
  case done =>
    rintro Dq xs W hDq rfl ⟨⟨⟨v, hbv, hrow, _⟩, hko⟩, hbl⟩ hK
    obtain ⟨A4, c4, rfl, hS4, hge, hnil, _, _⟩ := SlRows_own (f := p2V) (n := 2) (L := bkL r (legC a1 G D) (List.range n3)) (fun _ => rfl) hrow
    have s0 := hbv.cell
    have hrow2 := ownsRow_putObj hrow (.deferred none) hK rfl
    obtain ⟨A5, c5, he5, hS5, _, _, _, _⟩ := SlRows_own (f := p2V) (n := 2) (L := bkL r (legC a1 G D) (List.range n3)) (fun _ => rfl) hrow2
    cases he5
    gi_wp2
    refine ⟨by simp, .inl ⟨_, _, rfl, run_takeDeferred hK, ?_⟩⟩
    refine ⟨_, results_tmp2 rfl _ _ _, ⟨A4, ⟨c4, rfl⟩, hS5, ?_⟩⟩
    exact (hBW.trans (hbl.mono (by omega))).trans (belowK_b (w := w) (Nat.le_refl _) W Dq _ _ (by have := hBW.size; omega) hK rfl rfl)
  case stop =>
    rintro Dq c pre W _ _ h _
    exact h.elim
end Go.Proofs.Ytijdphlejokijaa
