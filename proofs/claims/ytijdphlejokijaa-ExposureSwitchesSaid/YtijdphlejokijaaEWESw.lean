import Derived.Test.YtijdphlejokijaaEWESwq
import Derived.Test.YtijdphlejokijaaEWEFx
import Derived.Outline
namespace Go.Proofs.Ytijdphlejokijaa
open Go.ChangeShapes Go.WideShapes Go.ChangeAt Go.RowKit
set_option linter.unusedVariables false
set_option linter.unusedSimpArgs false
attribute [local go_sem ↓] Go.wp_at_zero Go.wp_at_succ
attribute [local go_sem] Oper.semAt_some
open Go.Shelf
theorem sw_grown (W : World) (b i : Nat) (v : Value) : W.grownBy (W.setCell ⟨b, i, none⟩ v) (some b) := ⟨rfl, rfl, rfl, (KeepsWalks.setCell W _ v).size, fun k _ hk => Below.heap_setCell _ _ _ k (fun e => hk (by rw [e]))⟩
/-- A pair is stored into a box of its own. -/
theorem sw_store {X : World} {N tb ub : Nat} {tt te ty : TypeId} {v : Value} {n : Nat} {xs : List Value} {p q : Value} (hv : Boxed X tb tt v) (hrow : X.ownsRow N te 2 v n xs) (hB : BoxN X ub ty [p, q]) (htu : tb < ub) (huN : ub < N) (a b : Value) :
    Boxed ((X.setCell ⟨ub, 0, none⟩ a).setCell ⟨ub, 1, none⟩ b) tb tt v ∧ ((X.setCell ⟨ub, 0, none⟩ a).setCell ⟨ub, 1, none⟩ b).ownsRow N te 2 v n xs ∧ BoxN ((X.setCell ⟨ub, 0, none⟩ a).setCell ⟨ub, 1, none⟩ b) ub ty [a, b] ∧ KeepsOthers X ((X.setCell ⟨ub, 0, none⟩ a).setCell ⟨ub, 1, none⟩ b) ∧ KeptU N tb ub X ((X.setCell ⟨ub, 0, none⟩ a).setCell ⟨ub, 1, none⟩ b) ∧ Below tb X ((X.setCell ⟨ub, 0, none⟩ a).setCell ⟨ub, 1, none⟩ b) := by
  have g1 := sw_grown X ub 0 a
  have g2 := sw_grown (X.setCell ⟨ub, 0, none⟩ a) ub 1 b
  have hne : some tb ≠ some ub := fun e => by cases e; omega
  have r1 := hrow.kept g1 (.inr (fun e => by have := (own_blockG hrow _ e).1; omega))
  have r2 := r1.kept g2 (.inr (fun e => by have := (own_blockG r1 _ e).1; omega))
  refine ⟨(hv.kept g1 hne).kept g2 hne, r2, ?_, (KeepsOthers.setCell _ _ _).trans (KeepsOthers.setCell _ _ _), (KeptU.set _ _ _).trans (KeptU.set _ _ _), ?_⟩
  · exact (hB.set 0 a).set 1 b
  · exact ((Below.refl _ _).setCell (p := ⟨ub, 0, none⟩) (show tb ≤ ub by omega) a).setCell (p := ⟨ub, 1, none⟩) (show tb ≤ ub by omega) b
set_option maxRecDepth 100000 in
set_option maxHeartbeats 8000000 in
theorem Switches_any (nm : ByteArray) (s : Int) (G : List Ga) (D : List Le) (A B : Option Addr) (gn gc dn dc N0 : Nat) (E : Int) (w : World) (hz : nm.size ≤ 9223372036854775807) (hgn : Hid (gn = G.length)) (hgl : gn ≤ 9223372036854775807) (hdn : Hid (dn = D.length)) (hdl : dn ≤ 9223372036854775807) (hG : Hid (SlRows gaV 2 w A G)) (hD : Hid (SlRows leV 3 w B D)) (hE0 : Hid (plnP nm s G D = (N0, E))) :
    Calls Try.prog 40 #[.agg #[.string nm, .int .i64 s, .slice A gn gc, .slice B dn dc]] w fun e w' =>
      (¬ E = 0 ∧ e = .returned (.tuple #[.slice none 0 0, .int .i64 E]) ∧ Below w.heap.size w w') ∨
      (E = 0 ∧ ∃ C c, e = .returned (.tuple #[.slice C (swSt (legC s G D) (List.range dn)).1.length c, .int .i64 0]) ∧ SlRows p2V 2 w' C (swSt (legC s G D) (List.range dn)).1 ∧ Below w.heap.size w w') := by
  obtain ⟨i0, hi, hz0', hz1', hz2'⟩ := info_partsG infoP2
  have HI := Lib.hid hi
  have HZ0 := Lib.hid hz0'
  have HZ1 := Lib.hid hz1'
  have HZ2 := Lib.hid hz2'
  clear hi hz0' hz1' hz2'
  refine (callsIn_wide (n := 8)).1 ?_
  refine callsIn_of_wp_marks Try.func40 rfl trivial ?_ rfl
  simp only [Try.ntmps40, List.size_toArray, List.length_cons, List.length_nil, Nat.reduceAdd, Nat.reduceSub, Array.replicate_succ, Array.replicate_zero, List.push_toArray, List.append_toArray, List.nil_append, List.cons_append]
  gi_wp2_with fail
  have hb0 : Below w.heap.size w (w.alloc (.cells #[.string nm, .int .i64 s, .slice A gn gc, .slice B dn dc] 40)) := (Below.refl _ _).alloc (Nat.le_refl _) _
  refine ⟨trivial, (callsIn_wide.2 (follow_x nm s G D A B gn gc dn dc N0 E _ hz hgn hgl hdn hdl (Lib.hid (hG.out.below hb0)) (Lib.hid (hD.out.below hb0)) hE0)).mono ?_⟩
  rintro e x1 ⟨a0, a1, a2, n2, c2, a3, n3, c3, a4, n4, c4, a5, rfl, hn3, hn2, hfg, hb1⟩
  have HFG := Lib.hid hfg
  have hB1 : Below w.heap.size w x1 := hb0.trans (hb1.mono hb0.size)
  have hs1 : w.heap.size < x1.heap.size := by have := hb1.size; simp at this; omega
  clear hfg hb1 hb0
  by_cases hEE : ¬ E = 0
  · have hE3 : (E != 0) = true := by simpa using hEE
    gi_wp2
    exact ⟨_, results_tmp2 rfl _ _ _, Or.inl ⟨hEE, rfl, (by (repeat (first | (with_reducible refine Below.drew ?_) | (with_reducible refine below_drewN ?_ _) | (with_reducible refine Below.alloc ?_ (by first | omega | (simp; done) | (simp; omega) | (simp at *; omega)) _) | (with_reducible refine Below.setCell ?_ (by first | omega | (simp; done) | (simp; omega) | (simp at *; omega)) _) | (with_reducible exact Below.refl _ _) | (with_reducible assumption) | (with_reducible refine Below.trans ?_ (Below.mono (by assumption) (by first | omega | (simp; done) | (simp; omega) | (simp at *; omega)))))))⟩⟩
  obtain rfl : E = 0 := by omega
  obtain ⟨⟨rfl, rfl, rfl, rfl, rfl, rfl, rfl, rfl, rfl, rfl⟩, hP⟩ := HFG.out rfl
  have hok := Lib.hid (pln_ok hE0.out)
  have HP := Lib.hid hP
  have d60 : n3 ≤ 60 := by have := hok.out.d6; have := hdn.out; omega
  clear hP HFG
  gi_wp2_with fail
  refine ⟨trivial, (callsIn_wide.2 (legs_is a0 a1 a2 a3 a4 n2 c2 n3 c3 c4 _ _)).mono ?_⟩
  rintro e W0 ⟨rfl, hW0⟩
  obtain ⟨tb, htb⟩ : ∃ z, x1.heap.size + 1 = z := ⟨_, rfl⟩
  obtain ⟨ub, hub⟩ : ∃ z, tb + 1 = z := ⟨_, rfl⟩
  simp only [World.size_alloc, htb, hub] at hW0 ⊢
  obtain ⟨a5, ha5⟩ : ∃ z, Hid (secT D n3 = z) := ⟨_, Lib.hid rfl⟩
  rw [ha5.out] at hW0
  have zb : ((x1.alloc (.cells #[.string a0, .int .i64 a1, .slice a2 n2 c2, .slice a3 n3 c3, .slice a4 (n3 + 1) c4, .int .i64 a5] 110))).heap.size = tb := by simp [htb]
  have zc : ((x1.alloc (.cells #[.string a0, .int .i64 a1, .slice a2 n2 c2, .slice a3 n3 c3, .slice a4 (n3 + 1) c4, .int .i64 a5] 110)).alloc (.cells #[.slice none 0 0] 80)).heap.size = ub := by simp [htb, hub]
  have zd : (((x1.alloc (.cells #[.string a0, .int .i64 a1, .slice a2 n2 c2, .slice a3 n3 c3, .slice a4 (n3 + 1) c4, .int .i64 a5] 110)).alloc (.cells #[.slice none 0 0] 80)).alloc (.cells #[.int .i64 0, .int .i64 0] 55)).heap.size = ub + 1 := by simp [htb, hub]
  have bS : Boxed W0 tb 80 (.slice none 0 0) := by
    have h := ((Boxed.new (x1.alloc (.cells #[.string a0, .int .i64 a1, .slice a2 n2 c2, .slice a3 n3 c3, .slice a4 (n3 + 1) c4, .int .i64 a5] 110)) 80 (.slice none 0 0)).alloc (.cells #[.int .i64 0, .int .i64 0] 55)).alloc (.cells #[.string a0, .int .i64 a1, .slice a2 n2 c2, .slice a3 n3 c3, .slice a4 (n3 + 1) c4, .int .i64 a5] 110)
    rw [zb] at h
    rw [← hW0]; exact h
  have bU : BoxN W0 ub 55 [.int .i64 0, .int .i64 0] := by
    have h := BoxN.new ((x1.alloc (.cells #[.string a0, .int .i64 a1, .slice a2 n2 c2, .slice a3 n3 c3, .slice a4 (n3 + 1) c4, .int .i64 a5] 110)).alloc (.cells #[.slice none 0 0] 80)) 55 [.int .i64 0, .int .i64 0]
    rw [zc] at h
    have h2 := h.belowN (N := ub + 1) ((Below.refl (ub + 1) _).alloc (by rw [zd]; exact Nat.le_refl _) (.cells #[.string a0, .int .i64 a1, .slice a2 n2 c2, .slice a3 n3 c3, .slice a4 (n3 + 1) c4, .int .i64 a5] 110)) (by omega)
    rw [← hW0]; exact h2
  have hsz : W0.heap.size = ub + 2 := by rw [← hW0]; simp [htb, hub]
  have hbW : Below x1.heap.size x1 W0 := by rw [← hW0]; exact ((((Below.refl _ _).alloc (Nat.le_refl _) _).alloc (by simp) _).alloc (by simp <;> omega) _).alloc (by simp <;> omega) _
  have ZF : BlkF W0 w.heap.size (ub + 1) [.string a0, .int .i64 a1, .slice a2 n2 c2, .slice a3 n3 c3, .slice a4 (n3 + 1) c4, .int .i64 a5] := by
    have h := BlkF.made (B := w.heap.size) (((x1.alloc (.cells #[.string a0, .int .i64 a1, .slice a2 n2 c2, .slice a3 n3 c3, .slice a4 (n3 + 1) c4, .int .i64 a5] 110)).alloc (.cells #[.slice none 0 0] 80)).alloc (.cells #[.int .i64 0, .int .i64 0] 55)) [.string a0, .int .i64 a1, .slice a2 n2 c2, .slice a3 n3 c3, .slice a4 (n3 + 1) c4, .int .i64 a5] 110 (by rw [zd]; omega)
    rw [zd] at h
    rw [← hW0]; exact h
  clear hW0 zb zc zd
  have hBW : Below w.heap.size w W0 := hB1.trans (hbW.mono hB1.size)
  obtain ⟨bs, hbs0⟩ : ∃ bs, bs = (ub + 1) :: (bsO a2 G ++ bsO a3 D ++ bsO a4 (ptL D (n3 + 1))) := ⟨_, rfl⟩
  have hM : FolM bs (ub + 1) a0 a1 G D a2 a3 a4 n2 c2 n3 c3 c4 a5 W0 := by
    obtain ⟨e0, e1, e2, e3, e4, e5⟩ := b6 ZF
    exact ⟨by rw [hbs0]; simp, ZF.lt, e0, e1, e2, e3, e4, e5, slk_of (hG.out.below hBW) (fun b hb => by rw [hbs0]; simp [hb]), slk_of (hD.out.below hBW) (fun b hb => by rw [hbs0]; simp [hb]), slk_of (HP.out.below hbW) (fun b hb => by rw [hbs0]; simp [hb])⟩
  have hbs : ∀ b ∈ bs, b < W0.heap.size ∧ b ≠ tb ∧ b ≠ ub := by
    intro b hb
    rw [hbs0] at hb
    simp only [List.mem_cons, List.mem_append] at hb
    rcases hb with rfl | (hb | hb) | hb
    · omega
    · have := bsO_lt hG.out b hb; omega
    · have := bsO_lt hD.out b hb; omega
    · have := bsO_lt HP.out b hb; omega
  obtain ⟨N, hN⟩ : ∃ N, W0.heap.size = N := ⟨_, rfl⟩
  clear hbs0 ZF
  gi_wp2
  refine wpIn_rangeFunc_ownH rfl (by decide) (gf := 106) (lb := #[.pointer (some ⟨ub + 1, 0, none⟩)]) rfl trivial (enters_of Try.func106 (by kernel_rfl) rfl)
    (legs_stops _ (by decide) bs (ub + 1) a0 a1 G D a2 a3 a4 n2 c2 n3 c3 c4 a5 W0 hgn hdn hok hM) KpB.trans (fun W l o o' hl h a b => KpB.put (N := W0.heap.size) (fun b hb => (hbs b hb).1) W l o o' hl h a b) (Below.refl _ _) (fun _ => rfl)
    (fun pre W => (((∃ v, Boxed W tb 80 v ∧ W.ownsRow N 55 2 v (swSt (legC a1 G D) pre).1.length (rowsV p2V (swSt (legC a1 G D) pre).1) ∧ True) ∧ BoxN W ub 55 [.int .i64 (swSt (legC a1 G D) pre).2.1, .int .i64 (swSt (legC a1 G D) pre).2.2]) ∧ KeptU N tb ub W0 W) ∧ Below tb W0 W)
    (fun _ _ _ => False)
    (OwnFrom.and (OwnFrom.and (OwnFrom.and (Own.from (holdsRow_own N tb 80 55 2 (fun (pre : List Nat) => (swSt (legC a1 G D) pre).1.length) (fun (pre : List Nat) => rowsV p2V (swSt (legC a1 G D) pre).1) (fun _ _ => True)) _) (Own.from (boxN_own ub 55 (fun (pre : List Nat) => [.int .i64 (swSt (legC a1 G D) pre).2.1, .int .i64 (swSt (legC a1 G D) pre).2.2])) _)) (keptU_own (by omega) (by omega))) (ownFrom_below (by omega) (by omega)))
    (fun _ _ _ _ _ hs _ _ => hs)
    ⟨⟨⟨⟨_, bS, ⟨rfl, .inl ⟨rfl, rfl⟩⟩, trivial⟩, bU⟩, KeptU.refl _ _ _ _⟩, Below.refl _ _⟩
    (fun x a' W => ∃ Bx t0 t1 t2 t3 t4 t5 t9 t10 t11 t12 t13 t14 t15 t16 t17 t18 t19 t20 t21 t22 t23 t24 t25 t26 t27 t28 t29 t30 t31 t32 t33 t34 t35 t36 t37 t38 t39 t40 t41 t42 t43 t44 t45 t46, (N ≤ Bx ∧ ∀ v, Boxed W tb 80 v → True) ∧ BoxN W Bx 119 [.int .i64 (legC a1 G D x).s, .int .i64 (legC a1 G D x).d, .int .i64 (legC a1 G D x).g, .int .i64 (legC a1 G D x).nu, .int .i64 (legC a1 G D x).bs, .int .i64 (legC a1 G D x).bd, .int .i64 (legC a1 G D x).su, .int .i64 (legC a1 G D x).o, .int .i64 (legC a1 G D x).h] ∧ a' = { tmps := #[t0, t1, t2, t3, t4, t5, .pointer (some ⟨tb, 0, none⟩), .pointer (some ⟨ub, 0, none⟩), .pointer (some ⟨Bx, 0, none⟩), t9, t10, t11, t12, t13, t14, t15, t16, t17, t18, t19, t20, t21, t22, t23, t24, t25, t26, t27, t28, t29, t30, t31, t32, t33, t34, t35, t36, t37, t38, t39, t40, t41, t42, t43, t44, t45, t46], defers := [] })
    (fun x a' _ X Y row hs hg hr => by obtain ⟨Bx, t0, t1, t2, t3, t4, t5, t9, t10, t11, t12, t13, t14, t15, t16, t17, t18, t19, t20, t21, t22, t23, t24, t25, t26, t27, t28, t29, t30, t31, t32, t33, t34, t35, t36, t37, t38, t39, t40, t41, t42, t43, t44, t45, t46, h1, h2, h3⟩ := hs; exact ⟨Bx, t0, t1, t2, t3, t4, t5, t9, t10, t11, t12, t13, t14, t15, t16, t17, t18, t19, t20, t21, t22, t23, t24, t25, t26, t27, t28, t29, t30, t31, t32, t33, t34, t35, t36, t37, t38, t39, t40, t41, t42, t43, t44, t45, t46, ⟨h1.1, fun _ _ => trivial⟩, boxN_own Bx 119 (fun (_ : Unit) => [.int .i64 (legC a1 G D x).s, .int .i64 (legC a1 G D x).d, .int .i64 (legC a1 G D x).g, .int .i64 (legC a1 G D x).nu, .int .i64 (legC a1 G D x).bs, .int .i64 (legC a1 G D x).bd, .int .i64 (legC a1 G D x).su, .int .i64 (legC a1 G D x).o, .int .i64 (legC a1 G D x).h]) () X Y row h2 hg (fun r e => (hr r e).2), h3⟩)
    ?assign ?body ?done ?stop
  case assign =>
    rintro l pre x W K hi hK
    have hko := hi.1.2
    have hNW : N ≤ W.heap.size := by rw [← hN]; exact hko.size
    gi_wp2
    have HB9 : BoxN (W.alloc (.cells #[.int .i64 (legC a1 G D x).s, .int .i64 (legC a1 G D x).d, .int .i64 (legC a1 G D x).g, .int .i64 (legC a1 G D x).nu, .int .i64 (legC a1 G D x).bs, .int .i64 (legC a1 G D x).bd, .int .i64 (legC a1 G D x).su, .int .i64 (legC a1 G D x).o, .int .i64 (legC a1 G D x).h] 119)) W.heap.size 119 [.int .i64 (legC a1 G D x).s, .int .i64 (legC a1 G D x).d, .int .i64 (legC a1 G D x).g, .int .i64 (legC a1 G D x).nu, .int .i64 (legC a1 G D x).bs, .int .i64 (legC a1 G D x).bd, .int .i64 (legC a1 G D x).su, .int .i64 (legC a1 G D x).o, .int .i64 (legC a1 G D x).h] := BoxN.new W 119 [.int .i64 (legC a1 G D x).s, .int .i64 (legC a1 G D x).d, .int .i64 (legC a1 G D x).g, .int .i64 (legC a1 G D x).nu, .int .i64 (legC a1 G D x).bs, .int .i64 (legC a1 G D x).bd, .int .i64 (legC a1 G D x).su, .int .i64 (legC a1 G D x).o, .int .i64 (legC a1 G D x).h]
    have hb9 : Below W.heap.size W (W.alloc (.cells #[.int .i64 (legC a1 G D x).s, .int .i64 (legC a1 G D x).d, .int .i64 (legC a1 G D x).g, .int .i64 (legC a1 G D x).nu, .int .i64 (legC a1 G D x).bs, .int .i64 (legC a1 G D x).bd, .int .i64 (legC a1 G D x).su, .int .i64 (legC a1 G D x).o, .int .i64 (legC a1 G D x).h] 119)) := (Below.refl _ _).alloc (Nat.le_refl _) _
    refine hK _ _ (keepsFrom_below _ hb9) ((KeptU.of_below (N := N) (t := tb) (u := ub) (hb9.mono hNW)).kpB (by rw [← hN]; exact hbs)) ?_ ⟨W.heap.size, _, _, _, _, _, _, _, _, _, _, _, _, _, _, _, _, _, _, _, _, _, _, _, _, _, _, _, _, _, _, _, _, _, _, _, _, _, _, _, _, _, _, _, _, ⟨hNW, fun _ _ => trivial⟩, HB9, rfl⟩
    obtain ⟨⟨⟨⟨v, hv, hrow, _⟩, hbu⟩, hko⟩, hbl⟩ := hi
    exact ⟨⟨⟨⟨v, hv.below' hb9, own_belowG hrow hb9 (Nat.le_refl _), trivial⟩, hbu.belowN hb9 hbu.lt⟩, hko.trans (KeptU.of_below (hb9.mono hNW))⟩, hbl.trans (hb9.mono (by omega))⟩
  case body =>
    rintro l pre x a' W hl hr ⟨⟨⟨⟨v, hbv, hrow, _⟩, hbu⟩, hko⟩, hbl⟩ ⟨Bx, t0, t1, t2, t3, t4, t5, t9, t10, t11, t12, t13, t14, t15, t16, t17, t18, t19, t20, t21, t22, t23, t24, t25, t26, t27, t28, t29, t30, t31, t32, t33, t34, t35, t36, t37, t38, t39, t40, t41, t42, t43, t44, t45, t46, hBx, HB9, rfl⟩ hlen
    replace hBx := hBx.1
    obtain ⟨yl, hy⟩ : ∃ z, Hid (legC a1 G D x = z) := ⟨_, Lib.hid rfl⟩
    rw [hy.out] at HB9
    obtain ⟨L, hL⟩ : ∃ z, Hid ((swSt (legC a1 G D) pre).1 = z) := ⟨_, Lib.hid rfl⟩
    obtain ⟨p9, hp9⟩ : ∃ z, Hid ((swSt (legC a1 G D) pre).2.1 = z) := ⟨_, Lib.hid rfl⟩
    obtain ⟨q9, hq9⟩ : ∃ z, Hid ((swSt (legC a1 G D) pre).2.2 = z) := ⟨_, Lib.hid rfl⟩
    have hsn := swSt_snoc (legC a1 G D) pre x
    have hl9 := swSt_len (legC a1 G D) _ pre rfl
    rw [hy.out, hL.out, hp9.out, hq9.out] at hsn
    rw [hL.out] at hrow hl9
    rw [hp9.out, hq9.out] at hbu
    have HSN := Lib.hid hsn
    obtain ⟨A4, c4, rfl, hS4, _, _, _, _⟩ := SlRows_own (f := p2V) (n := 2) (L := L) (fun _ => rfl) hrow
    obtain ⟨ll, hll⟩ : ∃ z, Hid (L.length = z) := ⟨_, Lib.hid rfl⟩
    have hll60 : ll < 60 := by have h1 := hll.out; omega
    rw [hll.out] at hrow hbv
    have hNW : N ≤ W.heap.size := by rw [← hN]; exact hko.size
    have hbx2 := HB9.lt
    have huN : ub < N := by omega
    have htu : tb < ub := by omega
    have nbx1 : Bx ≠ ub := by omega
    have nbx2 : Bx ≠ tb := by omega
    have nub : ub ≠ tb := by omega
    have ltb : tb < W.heap.size := by omega
    have lub : ub < W.heap.size := by omega
    rw [hN] at hbs
    -- the round's own pair
    obtain ⟨sb, hsb⟩ : ∃ z, W.heap.size = z := ⟨_, rfl⟩
    have hbA : Below W.heap.size W (W.alloc (.cells #[.int .i64 yl.o, .int .i64 yl.h] 55)) := (Below.refl _ _).alloc (Nat.le_refl _) _
    have HB := HB9.blk (N := 0) (Nat.zero_le _)
    obtain ⟨l0, l1, l2, l3, l4, l5, l6, l7, l8⟩ := b9 HB
    clear HB hS4 hsn hlen hr
    refine wpIn_block ?_
    gi_upto_region 9 with (fail)
    rw [hsb] at hbA
    refine ex_world (fun X => Below W.heap.size W X ∧ BoxN X sb 55 [.int .i64 yl.o, .int .i64 yl.h]) ⟨by rw [hsb]; exact hbA, by rw [← hsb]; exact BoxN.new W 55 [.int .i64 yl.o, .int .i64 yl.h]⟩ (fun u hu => ?_)
    obtain ⟨hbA', sU⟩ := hu
    clear hbA l0 l1 l2 l3 l4 l5 l6 l7 l8
    have hsu := hbA'.size
    have bU := hbv.below' hbA'
    have rU := own_belowG hrow hbA' (Nat.le_refl _)
    have uU := hbu.belowN hbA' lub
    have xU := HB9.belowN hbA' hbx2
    have kU1 : KeepsOthers W u := ⟨hbA'.size, fun k o hk _ => (hbA'.block k (Array.getElem?_eq_some_iff.1 hk).1).trans hk⟩
    have kU2 : KeptU N tb ub W u := KeptU.of_below (hbA'.mono hNW)
    have kU3 : Below tb W u := hbA'.mono (by omega)
    clear hbv hbu HB9
    obtain ⟨l0, l1, l2, l3, l4, l5, l6, l7, l8⟩ := b9 (xU.blk (N := 0) (Nat.zero_le _))
    obtain ⟨s0, s1⟩ := b2 (sU.blk (N := 0) (Nat.zero_le _))
    obtain ⟨u0, u1⟩ := b2 (uU.blk (N := 0) (Nat.zero_le _))
    have t0' := bU.cell
    have lsb := sU.lt
    have lBx := xU.lt
    have lub2 := uU.lt
    have ltb2 := bU.lt
    by_cases h0 : 0 < yl.nu
    · by_cases hq : yl.o = p9 ∧ yl.h = q9
      · have hEq := eqP2 yl.o yl.h p9 q9 true (by simp [hq.1, hq.2])
        have hst : Hid (swSt (legC a1 G D) (pre ++ [x]) = (L, yl.o, yl.h)) := Lib.hid (by rw [HSN.out, if_neg (fun h => h.2 hq)])
        clear hq
        gi_upto_region 11 with (fail)
        have bX := bU; have rX := rU; have uX := uU; have sX := sU; have kX1 := kU1; have kX2 := kU2; have kX3 := kU3
        clear bU rU uU xU sU l0 l1 l2 l3 l4 l5 l6 l7 l8 s0 s1 u0 u1 t0' hEq
        obtain ⟨m1, m2, m3, m4, m5, m6⟩ := sw_store bX rX uX htu huN (.int .i64 yl.o) (.int .i64 yl.h)
        obtain ⟨s0, s1⟩ := b2 (sX.blk (N := 0) (Nat.zero_le _))
        obtain ⟨u0, u1⟩ := b2 (uX.blk (N := 0) (Nat.zero_le _))
        have uf := (uX.blk (N := 0) (Nat.zero_le _)).fz
        have hbX := bX.lt
        have HM := Lib.hid (And.intro m1 (And.intro m2 (And.intro m3 (And.intro m4 (And.intro m5 m6)))))
        clear m1 m2 m3 m4 m5 m6 bX rX uX sX hbX
        gi_wp2
        obtain ⟨m1, m2, m3, m4, m5, m6⟩ := HM.out
        refine ⟨(kX1.trans m4).from _, (kX2.trans m5).kpB hbs, ?_⟩
        dsimp only
        rw [hst.out, hll.out]
        first | exact ⟨⟨⟨⟨_, m1, m2, trivial⟩, m3⟩, hko.trans (kX2.trans m5)⟩, hbl.trans (kX3.trans m6)⟩ | exact ⟨⟨⟨⟨_, m1, m2⟩, m3⟩, hko.trans (kX2.trans m5)⟩, hbl.trans (kX3.trans m6)⟩
      · have hEq := eqP2 yl.o yl.h p9 q9 false (by rw [Bool.eq_false_iff]; intro h; exact hq (by simpa using h))
        have hst : Hid (swSt (legC a1 G D) (pre ++ [x]) = (L ++ [(yl.nu, yl.g)], yl.o, yl.h)) := Lib.hid (by rw [HSN.out, if_pos ⟨h0, hq⟩])
        clear hq
        gi_wp2_with (gi_at_builtin; refine wpListIn_append_own _ rfl _ _ 80 rfl N 55 i0 (.agg #[.int .i64 0, .int .i64 0]) 2 16 Try.underlying80 HI.out HZ0.out HZ1.out HZ2.out rfl (by decide) (.slice A4 ll c4) ll (rowsV p2V L) rfl (own_belowG rU ((Below.refl _ _).alloc (Nat.le_refl _) _) (Nat.le_refl _)) ⟨u.heap.size, 0, none⟩ 1 1 [.int .i64 yl.nu, .int .i64 yl.g] rfl rfl (fun j v hj => by rw [addNR, Nat.zero_add]; exact (BlkF.made (B := 0) u [.int .i64 yl.nu, .int .i64 yl.g] 55 (Nat.zero_le _)).at' j v hj) (by intro v hv; simp at hv; rcases hv with rfl | rfl <;> rfl) (by unfold maxLen; omega) (by omega) (by simp; omega) ?_)
        intro rv X0 hown hgrow hblk
        have hbT : Below u.heap.size u (u.alloc (.cells #[.int .i64 yl.nu, .int .i64 yl.g] 55)) := (Below.refl _ _).alloc (Nat.le_refl _) _
        obtain ⟨k1, k2, k3, k4, k5, k6⟩ := box_append (W := u.alloc (.cells #[.int .i64 yl.nu, .int .i64 yl.g] 55)) (bU.below' hbT) (by decide) (own_belowG rU hbT (Nat.le_refl _)) (by simp; omega) (by omega) hown hgrow
        obtain ⟨lq, hlq⟩ : ∃ z, Hid ((L ++ [(yl.nu, yl.g)]).length = z) := ⟨_, Lib.hid rfl⟩
        obtain ⟨A5, c5, hrv, _, _, _, _, _⟩ := SlRows_own (f := p2V) (n := 2) (L := L ++ [(yl.nu, yl.g)]) (fun _ => rfl) (by rw [rowsV_appG, List.length_append, hll.out]; exact hown)
        rw [hlq.out] at hrv
        subst hrv
        have hsX := hgrow.size
        have bsu : Below N u X0 := (hbT.mono (by omega)).grown hgrow (by simp; omega) (fun r hr => (own_blockG rU r hr).1)
        have hne : sb ≠ tb := by omega
        have rne : some sb ≠ (Value.slice A4 ll c4).ownBlock := fun e => by have := (own_blockG hrow _ e.symm).2; omega
        have rneu : some ub ≠ (Value.slice A4 ll c4).ownBlock := fun e => by have := (own_blockG hrow _ e.symm).1; omega
        have sX0 : BoxN X0 sb 55 [.int .i64 yl.o, .int .i64 yl.h] := (hgrow.block sb (by simp; omega) rne).trans (sU.belowN hbT sU.lt)
        have uX0 : BoxN X0 ub 55 [.int .i64 p9, .int .i64 q9] := (hgrow.block ub (by simp; omega) rneu).trans (uU.belowN hbT uU.lt)
        have hX3 : Hid (Boxed (X0.setCell ⟨tb, 0, none⟩ (.slice A5 lq c5)) tb 80 (.slice A5 lq c5) ∧ (X0.setCell ⟨tb, 0, none⟩ (.slice A5 lq c5)).ownsRow N 55 2 (.slice A5 lq c5) lq (rowsV p2V (L ++ [(yl.nu, yl.g)])) ∧ BoxN (X0.setCell ⟨tb, 0, none⟩ (.slice A5 lq c5)) ub 55 [.int .i64 p9, .int .i64 q9] ∧ BoxN (X0.setCell ⟨tb, 0, none⟩ (.slice A5 lq c5)) sb 55 [.int .i64 yl.o, .int .i64 yl.h] ∧ KeepsOthers W (X0.setCell ⟨tb, 0, none⟩ (.slice A5 lq c5)) ∧ KeptU N tb ub W (X0.setCell ⟨tb, 0, none⟩ (.slice A5 lq c5)) ∧ Below tb W (X0.setCell ⟨tb, 0, none⟩ (.slice A5 lq c5))) := Lib.hid (by
          refine ⟨k2, ?_, ?_, ?_, ?_, ?_, ?_⟩
          · rw [rowsV_appG, ← hlq.out, List.length_append, hll.out]
            rw [← hlq.out, List.length_append, hll.out] at k3
            exact k3
          · exact (Below.heap_setCell _ _ _ ub (by show ub ≠ tb; omega)).trans uX0
          · exact (Below.heap_setCell _ _ _ sb (by show sb ≠ tb; omega)).trans sX0
          · have kT : KeepsOthers u (u.alloc (.cells #[.int .i64 yl.nu, .int .i64 yl.g] 55)) := ⟨by simp, fun k o hk _ => (hbT.block k (Array.getElem?_eq_some_iff.1 hk).1).trans hk⟩
            exact (kU1.trans kT).trans k4
          · exact (kU2.trans (KeptU.of_below (hbT.mono (by omega)))).trans (KeptU.of_kept k6)
          · exact (kU3.trans (hbT.mono (by omega))).trans k5)
        have c0 := k1.cell
        have cf := k1.frozen
        clear k1 k2 k3 k4 k5 k6 hown hgrow hblk bU rU uU xU sU l0 l1 l2 l3 l4 l5 l6 l7 l8 s0 s1 u0 u1 t0' hEq sX0 uX0 bsu rne rneu hsX
        gi_upto_region 11 with (fail)
        refine ex_world (fun X => Boxed X tb 80 (.slice A5 lq c5) ∧ X.ownsRow N 55 2 (.slice A5 lq c5) lq (rowsV p2V (L ++ [(yl.nu, yl.g)])) ∧ BoxN X ub 55 [.int .i64 p9, .int .i64 q9] ∧ BoxN X sb 55 [.int .i64 yl.o, .int .i64 yl.h] ∧ KeepsOthers W X ∧ KeptU N tb ub W X ∧ Below tb W X) hX3.out (fun X9 hX9 => ?_)
        clear hX3 c0 cf
        obtain ⟨bX, rX, uX, sX, kX1, kX2, kX3⟩ := hX9
        obtain ⟨m1, m2, m3, m4, m5, m6⟩ := sw_store bX rX uX htu huN (.int .i64 yl.o) (.int .i64 yl.h)
        obtain ⟨s0, s1⟩ := b2 (sX.blk (N := 0) (Nat.zero_le _))
        obtain ⟨u0, u1⟩ := b2 (uX.blk (N := 0) (Nat.zero_le _))
        have uf := (uX.blk (N := 0) (Nat.zero_le _)).fz
        have hbX := bX.lt
        have HM := Lib.hid (And.intro m1 (And.intro m2 (And.intro m3 (And.intro m4 (And.intro m5 m6)))))
        clear m1 m2 m3 m4 m5 m6 bX rX uX sX hbX
        gi_wp2
        obtain ⟨m1, m2, m3, m4, m5, m6⟩ := HM.out
        refine ⟨(kX1.trans m4).from _, (kX2.trans m5).kpB hbs, ?_⟩
        dsimp only
        rw [hst.out, hlq.out]
        first | exact ⟨⟨⟨⟨_, m1, m2, trivial⟩, m3⟩, hko.trans (kX2.trans m5)⟩, hbl.trans (kX3.trans m6)⟩ | exact ⟨⟨⟨⟨_, m1, m2⟩, m3⟩, hko.trans (kX2.trans m5)⟩, hbl.trans (kX3.trans m6)⟩
    · have hst : Hid (swSt (legC a1 G D) (pre ++ [x]) = (L, yl.o, yl.h)) := Lib.hid (by rw [HSN.out, if_neg (fun h => h0 h.1)])
      gi_upto_region 11 with (fail)
      have bX := bU; have rX := rU; have uX := uU; have sX := sU; have kX1 := kU1; have kX2 := kU2; have kX3 := kU3
      clear bU rU uU xU sU l0 l1 l2 l3 l4 l5 l6 l7 l8 s0 s1 u0 u1 t0'
      obtain ⟨m1, m2, m3, m4, m5, m6⟩ := sw_store bX rX uX htu huN (.int .i64 yl.o) (.int .i64 yl.h)
      obtain ⟨s0, s1⟩ := b2 (sX.blk (N := 0) (Nat.zero_le _))
      obtain ⟨u0, u1⟩ := b2 (uX.blk (N := 0) (Nat.zero_le _))
      have uf := (uX.blk (N := 0) (Nat.zero_le _)).fz
      have hbX := bX.lt
      have HM := Lib.hid (And.intro m1 (And.intro m2 (And.intro m3 (And.intro m4 (And.intro m5 m6)))))
      clear m1 m2 m3 m4 m5 m6 bX rX uX sX hbX
      gi_wp2
      obtain ⟨m1, m2, m3, m4, m5, m6⟩ := HM.out
      refine ⟨(kX1.trans m4).from _, (kX2.trans m5).kpB hbs, ?_⟩
      dsimp only
      rw [hst.out, hll.out]
      first | exact ⟨⟨⟨⟨_, m1, m2, trivial⟩, m3⟩, hko.trans (kX2.trans m5)⟩, hbl.trans (kX3.trans m6)⟩ | exact ⟨⟨⟨⟨_, m1, m2⟩, m3⟩, hko.trans (kX2.trans m5)⟩, hbl.trans (kX3.trans m6)⟩
  case done =>
    rintro Dq xs W hDq rfl ⟨⟨⟨⟨v, hbv, hrow, _⟩, hbu⟩, hko⟩, hbl⟩ hK
    obtain ⟨A4, c4, rfl, hS4, hge, hnil, _, _⟩ := SlRows_own (f := p2V) (n := 2) (L := (swSt (legC a1 G D) (List.range n3)).1) (fun _ => rfl) hrow
    have s0 := hbv.cell
    have hrow2 := ownsRow_putObj hrow (.deferred none) hK rfl
    obtain ⟨A5, c5, he5, hS5, _, _, _, _⟩ := SlRows_own (f := p2V) (n := 2) (L := (swSt (legC a1 G D) (List.range n3)).1) (fun _ => rfl) hrow2
    cases he5
    gi_wp2
    refine ⟨by simp, .inl ⟨_, _, rfl, run_takeDeferred hK, ?_⟩⟩
    refine ⟨_, results_tmp2 rfl _ _ _, ⟨A4, ⟨c4, rfl⟩, hS5, ?_⟩⟩
    exact (hBW.trans (hbl.mono (by omega))).trans (belowK_b (w := w) (Nat.le_refl _) W Dq _ _ (by have := hBW.size; omega) hK rfl rfl)
  case stop =>
    rintro Dq c pre W _ _ h _
    exact h.elim
end Go.Proofs.Ytijdphlejokijaa
