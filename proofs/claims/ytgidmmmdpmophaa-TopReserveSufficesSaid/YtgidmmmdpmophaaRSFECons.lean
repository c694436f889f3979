import Derived.Test.YtgidmmmdpmophaaRSFEClkOf
import Derived.Outline
namespace Go.Proofs.Ytgidmmmdpmophaa
open Go.Shelf Go.ChangeShapes Go.WideShapes Go.ChangeAt Go.RowKit
set_option linter.unusedVariables false
set_option linter.unusedSimpArgs false
attribute [local go_sem ↓] Go.wp_at_zero Go.wp_at_succ
attribute [local go_sem] Oper.semAt_some
/-- The amounts behind one more leg. -/
def conStep (b : Int) (y : Pl) (l : List Int) : List Int := l.set y.g.toNat (l.getD y.g.toNat 0 + brV y b)
def conA (b : Int) (f : Nat → Pl) (n : Nat) (pre : List Nat) : List Int := pre.foldl (fun l k => conStep b (f k) l) (List.replicate n 0)
theorem conA_snoc (b : Int) (f : Nat → Pl) (n : Nat) (pre : List Nat) (x : Nat) : conA b f n (pre ++ [x]) = conStep b (f x) (conA b f n pre) := by simp [conA]
theorem foldl_congr' {α β : Type} {f g : β → α → β} : ∀ {l : List α} {z : β}, (∀ b, ∀ a ∈ l, f b a = g b a) → l.foldl f z = l.foldl g z
  | [], _, _ => rfl
  | x :: l, z, h => by
    rw [List.foldl_cons, List.foldl_cons, h z x (by simp)]
    exact foldl_congr' fun b a ha => h b a (by simp [ha])
theorem conA_congr {b : Int} {f g : Nat → Pl} {n : Nat} {pre : List Nat} (h : ∀ k ∈ pre, f k = g k) : conA b f n pre = conA b g n pre := foldl_congr' fun l k hk => by rw [h k hk]
theorem conStep_len (b : Int) (y : Pl) (l : List Int) : (conStep b y l).length = l.length := by simp [conStep]
theorem conA_snocL (b : Int) (f : Nat → Pl) (n : Nat) : ∀ (m : Nat) (pre : List Nat), pre.length = m → (conA b f n pre).length = n ∧ ((∀ k, PlOk (f k)) → 1 ≤ b → b ≤ 100000 → ∀ g, 0 ≤ (conA b f n pre).getD g 0 ∧ (conA b f n pre).getD g 0 ≤ m * 6220000000000000)
  | 0, pre, h => by
    obtain rfl := List.eq_nil_of_length_eq_zero h
    refine ⟨by simp [conA], fun _ _ _ g => ?_⟩
    have : (conA b f n []).getD g 0 = 0 := by
      unfold conA
      simp only [List.foldl_nil, List.getD_eq_getElem?_getD, List.getElem?_replicate]
      split <;> rfl
    rw [this]; omega
  | m + 1, pre, h => by
    obtain ⟨q, x, rfl⟩ : ∃ q x, pre = q ++ [x] := by
      have hne : pre ≠ [] := by intro e; rw [e] at h; simp at h
      exact ⟨pre.dropLast, pre.getLast hne, (List.dropLast_concat_getLast hne).symm⟩
    have hq : q.length = m := by simpa using h
    obtain ⟨h1, h2⟩ := conA_snocL b f n m q hq
    rw [conA_snoc]
    refine ⟨by rw [conStep_len]; exact h1, fun hf b0 b1 g => ?_⟩
    have hb := brV_bd (hf x) b0 b1
    have hg := h2 hf b0 b1 g
    have hx := h2 hf b0 b1 (f x).g.toNat
    unfold conStep
    rw [List.getD_eq_getElem?_getD, List.getElem?_set]
    by_cases e : (f x).g.toNat = g
    · rw [if_pos e]
      by_cases e2 : (f x).g.toNat < (conA b f n q).length
      · rw [if_pos e2]
        simp only [Option.getD_some]
        omega
      · rw [if_neg e2]
        simp only [Option.getD_none]
        omega
    · rw [if_neg e, ← List.getD_eq_getElem?_getD]
      omega
theorem mkIn8 {n : Nat} (h1 : 1 ≤ n) (h8 : n ≤ 8) (w : World) : (Instr.makeSlice 49 (.int .i64 n) (.int .i64 n)).run Try.prog w = .ok (.slice (some ⟨w.heap.size, 0, none⟩) n n) (w.alloc (.cells (List.replicate n (.int .i64 0)).toArray 3)) := by
  rcases (show n = 1 ∨ n = 2 ∨ n = 3 ∨ n = 4 ∨ n = 5 ∨ n = 6 ∨ n = 7 ∨ n = 8 by omega) with rfl | rfl | rfl | rfl | rfl | rfl | rfl | rfl <;> kernel_rfl
theorem legC_g {nm : ByteArray} {s : Int} {G : List Ga} {D : List Le} (h : PlnOk nm s G D) (k : Nat) : ∃ g : Nat, (legC s G D k).g = g ∧ g < G.length := by
  have g0 := h.g0
  unfold legC
  by_cases hk : k < D.length
  · rw [if_pos hk]
    have h1 := h.le (D.getD k default) (by rw [getD_at hk]; exact List.getElem_mem hk)
    refine ⟨(D.getD k default).g.toNat, ?_, by omega⟩
    show (D.getD k default).g = _
    omega
  · rw [if_neg hk]; exact ⟨0, rfl, g0⟩
set_option maxRecDepth 100000 in
set_option maxHeartbeats 8000000 in
theorem Consumed_any (nm : ByteArray) (s : Int) (G : List Ga) (D : List Le) (A B : Option Addr) (gn gc dn dc N0 : Nat) (E0 b E1 E : Int) (w : World) (hz : nm.size ≤ 9223372036854775807) (hgn : Hid (gn = G.length)) (hgl : gn ≤ 9223372036854775807) (hdn : Hid (dn = D.length)) (hdl : dn ≤ 9223372036854775807) (hG : Hid (SlRows gaV 2 w A G)) (hD : Hid (SlRows leV 3 w B D)) (hE0 : Hid (plnP nm s G D = (N0, E0)))
    (hE1 : Hid (rngE b 1 100000 = E1)) (hE : Hid (firE [E0, E1] = E)) :
    Calls Try.prog 19 #[.agg #[.string nm, .int .i64 s, .slice A gn gc, .slice B dn dc], .int .i64 b] w fun e w' =>
      (¬ E = 0 ∧ e = .returned (.tuple #[.slice none 0 0, .int .i64 E]) ∧ Below w.heap.size w w') ∨
      (E = 0 ∧ ∃ C, e = .returned (.tuple #[.slice (some ⟨C, 0, none⟩) gn gn, .int .i64 0]) ∧ SlRows inV 1 w' (some ⟨C, 0, none⟩) (conA b (legK s G D) gn (List.range dn)) ∧ w.heap.size ≤ C ∧ Below w.heap.size w w') := by
  refine (callsIn_wide (n := 8)).1 ?_
  refine callsIn_of_wp_marks Try.func19 rfl trivial ?_ rfl
  simp only [Try.ntmps19, List.size_toArray, List.length_cons, List.length_nil, Nat.reduceAdd, Nat.reduceSub, Array.replicate_succ, Array.replicate_zero, List.push_toArray, List.append_toArray, List.nil_append, List.cons_append]
  gi_wp2_with fail
  have hb0 : Below w.heap.size w ((w.alloc (.cells #[.string nm, .int .i64 s, .slice A gn gc, .slice B dn dc] 25)).alloc (.cells #[.int .i64 b] 3)) := ((Below.refl _ _).alloc (Nat.le_refl _) _).alloc (by simp) _
  have Zr := BlkF.made (B := w.heap.size) (w.alloc (.cells #[.string nm, .int .i64 s, .slice A gn gc, .slice B dn dc] 25)) [.int .i64 b] 3 (by simp)
  have hz0 : ((w.alloc (.cells #[.string nm, .int .i64 s, .slice A gn gc, .slice B dn dc] 25)).alloc (.cells #[.int .i64 b] 3)).heap.size = w.heap.size + 2 := by simp
  refine ⟨trivial, (callsIn_wide.2 (follow_any nm s G D A B gn gc dn dc N0 E0 _ hz hgn hgl hdn hdl (Lib.hid (hG.out.below hb0)) (Lib.hid (hD.out.below hb0)) hE0)).mono ?_⟩
  rintro e x1 h
  obtain ⟨a0, a1, a2, n2, c2, a3, n3, c3, a4, n4, c4, a5, rfl, hb1, hgood⟩ : ∃ a0 a1 a2 n2 c2 a3 n3 c3 a4 n4 c4 a5, e = .returned (.tuple #[.agg #[.string a0, .int .i64 a1, .slice a2 n2 c2, .slice a3 n3 c3, .slice a4 n4 c4, .int .i64 a5], .int .i64 E0]) ∧ Below ((w.alloc (.cells #[.string nm, .int .i64 s, .slice A gn gc, .slice B dn dc] 25)).alloc (.cells #[.int .i64 b] 3)).heap.size ((w.alloc (.cells #[.string nm, .int .i64 s, .slice A gn gc, .slice B dn dc] 25)).alloc (.cells #[.int .i64 b] 3)) x1 ∧ (E0 = 0 → (a0 = nm ∧ a1 = s ∧ a2 = A ∧ n2 = gn ∧ c2 = gc ∧ a3 = B ∧ n3 = dn ∧ c3 = dc ∧ n4 = dn + 1) ∧ SlRows ptV 2 x1 a4 (ptL D (dn + 1))) := by
    rcases h with ⟨h0, rfl, hb⟩ | ⟨h0, P, pc, E9, rfl, hP, _, hb⟩
    · exact ⟨_, _, _, _, _, _, _, _, _, _, _, _, rfl, hb, fun e => absurd e h0⟩
    · exact ⟨_, _, _, _, _, _, _, _, _, _, _, _, by rw [h0], hb, fun _ => ⟨⟨rfl, rfl, rfl, rfl, rfl, rfl, rfl, rfl, rfl⟩, hP⟩⟩
  have hB1 : Below w.heap.size w x1 := hb0.trans (hb1.mono hb0.size)
  have Yr := Zr.below (hb1.mono (by simp))
  have hs1 : w.heap.size + 2 ≤ x1.heap.size := by rw [← hz0]; exact hb1.size
  simp only [World.size_alloc] at Yr
  have hgood := Lib.hid hgood
  clear h Zr hb1 hb0 hz0
  have r0 := b1 Yr
  have rl := Yr.lt
  have rne : w.heap.size + 1 ≠ x1.heap.size := by omega
  gi_wp2_with fail
  refine ⟨trivial, callsIn_world (fun X => Below x1.heap.size x1 X ∧ BlkF X w.heap.size x1.heap.size [.string a0, .int .i64 a1, .slice a2 n2 c2, .slice a3 n3 c3, .slice a4 n4 c4, .int .i64 a5]) ⟨?_, ?_⟩ (fun X hX => ?_)⟩
  · exact (Below.refl _ _).alloc (Nat.le_refl _) _
  · exact BlkF.made (B := w.heap.size) x1 [.string a0, .int .i64 a1, .slice a2 n2 c2, .slice a3 n3 c3, .slice a4 n4 c4, .int .i64 a5] 67 hB1.size
  obtain ⟨hbX, Z6⟩ := hX
  have hBX : Below w.heap.size w X := hB1.trans (hbX.mono hB1.size)
  refine (callsIn_wide.2 (cBreathB b E1 X hE1)).mono ?_
  rintro e x2 ⟨rfl, hb2⟩
  have hb12 : Below x1.heap.size x1 x2 := hbX.trans (hb2.mono hbX.size)
  have Y6 := Z6.below hb2
  clear hb2 Z6 hbX hBX
  gi_wp2_with fail
  have Z5 := BlkF.made (B := x2.heap.size) x2 [.int .i64 E0, .int .i64 E1] 38 (Nat.le_refl _)
  refine ⟨trivial, (callsIn_wide.2 (cFirstB [E0, E1] _ 0 2 _ rfl (by simp) (by simp) (blk_ints (l := [E0, E1]) Z5))).mono ?_⟩
  rintro e x3 ⟨rfl, hb3⟩
  rw [hE.out]
  have hb23 : Below x2.heap.size x2 x3 := ((Below.refl _ _).alloc (Nat.le_refl _) _).trans (hb3.mono (by simp))
  have V6 := Y6.below hb23
  have hb13 : Below x1.heap.size x1 x3 := hb12.trans (hb23.mono hb12.size)
  have Vr := Yr.below hb13
  have hB3 : Below w.heap.size w x3 := hB1.trans (hb13.mono hB1.size)
  have hs3 := hb13.size
  have hl6 := V6.lt
  clear Z5 hb3 hb23 Y6 hb12 Yr r0 rl rne
  by_cases hEE : ¬ E = 0
  · have hE3 : (E != 0) = true := by simpa using hEE
    gi_wp2
    exact ⟨_, results_tmp2 rfl _ _ _, Or.inl ⟨hEE, rfl, hB3⟩⟩
  obtain rfl : E = 0 := by omega
  obtain ⟨rfl, rfl⟩ : E0 = 0 ∧ E1 = 0 := by
    have := firE_all hE.out
    exact ⟨this _ (by simp), this _ (by simp)⟩
  obtain ⟨⟨rfl, rfl, rfl, rfl, rfl, rfl, rfl, rfl, rfl⟩, hP⟩ := hgood.out rfl
  have hok := Lib.hid (pln_ok hE0.out)
  have hbb := rngE_bd hE1.out
  have HP := Lib.hid hP
  have d60 : n3 ≤ 60 := by have := hok.out.d6; have := hdn.out; omega
  have g8 : n2 ≤ 8 := by have := hok.out.g8; have := hgn.out; omega
  have g1 : 1 ≤ n2 := by have := hok.out.g0; have := hgn.out; omega
  obtain ⟨f0, f1, f2, f3, f4, f5⟩ := b6 V6
  clear hP hgood hE
  have fne : x1.heap.size ≠ x3.heap.size := by omega
  have fne2 : x1.heap.size ≠ x3.heap.size + 1 := by omega
  have hmk := fun (w : World) => mkIn8 g1 g8 w
  gi_wp2_with fail
  clear hmk
  refine ⟨trivial, (callsIn_wide.2 (legs_is a0 a1 a2 a3 a4 n2 c2 n3 c3 c4 a5 _)).mono ?_⟩
  rintro e W0 ⟨rfl, hW0⟩
  obtain ⟨mb, hmb⟩ : ∃ z, x3.heap.size = z := ⟨_, rfl⟩
  obtain ⟨tb, htb⟩ : ∃ z, mb + 1 = z := ⟨_, rfl⟩
  simp only [World.size_alloc, hmb, htb] at hW0 ⊢
  have Bm0 : BoxN W0 mb 3 (List.replicate n2 (.int .i64 0)) := by
    rw [← hW0, ← hmb]
    exact (Below.heap_alloc _ _ _ (by simp <;> omega)).trans ((Below.heap_alloc _ _ _ (by simp <;> omega)).trans (BoxN.new x3 3 _))
  have bS : BoxN W0 tb 49 [.slice (some ⟨mb, 0, none⟩) n2 n2] := by
    rw [← hW0, ← htb, ← hmb]
    have := BoxN.new (x3.alloc (.cells (List.replicate n2 (.int .i64 0)).toArray 3)) 49 [.slice (some ⟨x3.heap.size, 0, none⟩) n2 n2]
    simp only [World.size_alloc] at this
    exact (Below.heap_alloc _ _ _ (by simp)).trans this
  have hsz : W0.heap.size = tb + 2 := by rw [← hW0, ← htb, ← hmb]; simp
  have hbW : Below x3.heap.size x3 W0 := by rw [← hW0]; exact (((Below.refl _ _).alloc (Nat.le_refl _) _).alloc (by simp) _).alloc (by simp; omega) _
  have ZF : BlkF W0 w.heap.size (tb + 1) [.string a0, .int .i64 a1, .slice a2 n2 c2, .slice a3 n3 c3, .slice a4 (n3 + 1) c4, .int .i64 a5] := by
    rw [← hW0]
    have := BlkF.made (B := w.heap.size) ((x3.alloc (.cells (List.replicate n2 (.int .i64 0)).toArray 3)).alloc (.cells #[.slice (some ⟨mb, 0, none⟩) n2 n2] 49)) [.string a0, .int .i64 a1, .slice a2 n2 c2, .slice a3 n3 c3, .slice a4 (n3 + 1) c4, .int .i64 a5] 67 (by have := hB3.size; simp; omega)
    simpa [htb, hmb] using this
  clear hW0
  have hb1W : Below x1.heap.size x1 W0 := hb13.trans (hbW.mono hb13.size)
  have hBW : Below w.heap.size w W0 := hB1.trans (hb1W.mono hB1.size)
  have WR := Vr.below (hbW)
  have rl1 : w.heap.size + 1 < mb := by omega
  obtain ⟨bs, hbs0⟩ : ∃ bs, bs = (tb + 1) :: (bsO a2 G ++ bsO a3 D ++ bsO a4 (ptL D (n3 + 1))) := ⟨_, rfl⟩
  have hM : FolM bs (tb + 1) a0 a1 G D a2 a3 a4 n2 c2 n3 c3 c4 a5 W0 := by
    obtain ⟨e0, e1, e2, e3, e4, e5⟩ := b6 ZF
    exact ⟨by rw [hbs0]; simp, ZF.lt, e0, e1, e2, e3, e4, e5, slk_of (hG.out.below hBW) (fun b hb => by rw [hbs0]; simp [hb]), slk_of (hD.out.below hBW) (fun b hb => by rw [hbs0]; simp [hb]), slk_of (HP.out.below hb1W) (fun b hb => by rw [hbs0]; simp [hb])⟩
  have hbs : ∀ b ∈ bs, b < W0.heap.size ∧ b ≠ mb := by
    intro b hb
    rw [hbs0] at hb
    simp only [List.mem_cons, List.mem_append] at hb
    rcases hb with rfl | (hb | hb) | hb
    · omega
    · have := bsO_lt hG.out b hb; omega
    · have := bsO_lt hD.out b hb; omega
    · have := bsO_lt HP.out b hb; omega
  obtain ⟨N, hN⟩ : ∃ N, W0.heap.size = N := ⟨_, rfl⟩
  have hrep : List.replicate n2 (Value.int .i64 0) = (conA b (legC a1 G D) n2 []).map (fun x => Value.int .i64 x) := by simp [conA]
  clear hbs0 ZF V6 Vr f0 f1 f2 f3 f4 f5 hb13 hbW hb1W
  gi_wp2
  refine wpIn_rangeFunc_ownH rfl (by decide) (gf := 60) (lb := #[.pointer (some ⟨tb + 1, 0, none⟩)]) rfl trivial (enters_of Try.func60 (by kernel_rfl) rfl)
    (legs_stops _ (by decide) bs (tb + 1) a0 a1 G D a2 a3 a4 n2 c2 n3 c3 c4 a5 W0 hgn hdn hok hM) KpB.trans (fun W l o o' hl h a b => KpB.put (N := W0.heap.size) (fun b hb => (hbs b hb).1) W l o o' hl h a b) (Below.refl _ _) (fun _ => rfl)
    (fun pre W => (BoxN W mb 3 ((conA b (legC a1 G D) n2 pre).map fun x => Value.int .i64 x) ∧ KeptO N mb W0 W) ∧ Below mb W0 W)
    (fun _ _ _ => False)
    (OwnFrom.and (OwnFrom.and (Own.from (boxN_own mb 3 (fun (pre : List Nat) => (conA b (legC a1 G D) n2 pre).map fun x => Value.int .i64 x)) _) (keptO_own (by omega) (by omega))) (ownFrom_below (by omega) (by omega)))
    (fun _ _ _ _ _ hs _ _ => hs)
    ⟨⟨by rw [← hrep]; exact Bm0, KeptO.refl _ _ _⟩, Below.refl _ _⟩
    (fun x a' W => ∃ Bx t0 t1 t2 t4 t5 t6 t7 t10 t11 t12 t13 t14 t15 t16 t17 t18 t19 t20 t21 t22 t23 t24 t25 t26 t27 t28 t29 t30 t31 t32 t33 t34 t35 t36 t37 t38 t39 t40 t41 t42, N ≤ Bx ∧ BoxN W Bx 94 [.int .i64 (legC a1 G D x).s, .int .i64 (legC a1 G D x).d, .int .i64 (legC a1 G D x).g, .int .i64 (legC a1 G D x).nu, .int .i64 (legC a1 G D x).bs, .int .i64 (legC a1 G D x).bd, .int .i64 (legC a1 G D x).su, .int .i64 (legC a1 G D x).o, .int .i64 (legC a1 G D x).h] ∧ a' = { tmps := #[t0, t1, t2, .pointer (some ⟨w.heap.size + 1, 0, none⟩), t4, t5, t6, t7, .pointer (some ⟨tb, 0, none⟩), .pointer (some ⟨Bx, 0, none⟩), t10, t11, t12, t13, t14, t15, t16, t17, t18, t19, t20, t21, t22, t23, t24, t25, t26, t27, t28, t29, t30, t31, t32, t33, t34, t35, t36, t37, t38, t39, t40, t41, t42], defers := [] })
    (fun x a' _ X Y row hs hg hr => by obtain ⟨Bx, t0, t1, t2, t4, t5, t6, t7, t10, t11, t12, t13, t14, t15, t16, t17, t18, t19, t20, t21, t22, t23, t24, t25, t26, t27, t28, t29, t30, t31, t32, t33, t34, t35, t36, t37, t38, t39, t40, t41, t42, h1, h2, h3⟩ := hs; exact ⟨Bx, t0, t1, t2, t4, t5, t6, t7, t10, t11, t12, t13, t14, t15, t16, t17, t18, t19, t20, t21, t22, t23, t24, t25, t26, t27, t28, t29, t30, t31, t32, t33, t34, t35, t36, t37, t38, t39, t40, t41, t42, h1, boxN_own Bx 94 (fun (_ : Unit) => [.int .i64 (legC a1 G D x).s, .int .i64 (legC a1 G D x).d, .int .i64 (legC a1 G D x).g, .int .i64 (legC a1 G D x).nu, .int .i64 (legC a1 G D x).bs, .int .i64 (legC a1 G D x).bd, .int .i64 (legC a1 G D x).su, .int .i64 (legC a1 G D x).o, .int .i64 (legC a1 G D x).h]) () X Y row h2 hg (fun r e => (hr r e).2), h3⟩)
    ?assign ?body ?done ?stop
  case assign =>
    rintro l pre x W K hi hK
    have hko := hi.1.2
    have hNW : N ≤ W.heap.size := by rw [← hN]; exact hko.size
    gi_wp2
    have HB9 : BoxN (W.alloc (.cells #[.int .i64 (legC a1 G D x).s, .int .i64 (legC a1 G D x).d, .int .i64 (legC a1 G D x).g, .int .i64 (legC a1 G D x).nu, .int .i64 (legC a1 G D x).bs, .int .i64 (legC a1 G D x).bd, .int .i64 (legC a1 G D x).su, .int .i64 (legC a1 G D x).o, .int .i64 (legC a1 G D x).h] 94)) W.heap.size 94 [.int .i64 (legC a1 G D x).s, .int .i64 (legC a1 G D x).d, .int .i64 (legC a1 G D x).g, .int .i64 (legC a1 G D x).nu, .int .i64 (legC a1 G D x).bs, .int .i64 (legC a1 G D x).bd, .int .i64 (legC a1 G D x).su, .int .i64 (legC a1 G D x).o, .int .i64 (legC a1 G D x).h] := BoxN.new W 94 [.int .i64 (legC a1 G D x).s, .int .i64 (legC a1 G D x).d, .int .i64 (legC a1 G D x).g, .int .i64 (legC a1 G D x).nu, .int .i64 (legC a1 G D x).bs, .int .i64 (legC a1 G D x).bd, .int .i64 (legC a1 G D x).su, .int .i64 (legC a1 G D x).o, .int .i64 (legC a1 G D x).h]
    have hb9 : Below W.heap.size W (W.alloc (.cells #[.int .i64 (legC a1 G D x).s, .int .i64 (legC a1 G D x).d, .int .i64 (legC a1 G D x).g, .int .i64 (legC a1 G D x).nu, .int .i64 (legC a1 G D x).bs, .int .i64 (legC a1 G D x).bd, .int .i64 (legC a1 G D x).su, .int .i64 (legC a1 G D x).o, .int .i64 (legC a1 G D x).h] 94)) := (Below.refl _ _).alloc (Nat.le_refl _) _
    refine hK _ _ (keepsFrom_below _ hb9) ((KeptO.of_below (N := N) (t := mb) (hb9.mono hNW)).kpB (by rw [← hN]; exact hbs)) ?_ ⟨W.heap.size, _, _, _, _, _, _, _, _, _, _, _, _, _, _, _, _, _, _, _, _, _, _, _, _, _, _, _, _, _, _, _, _, _, _, _, _, _, _, _, _, hNW, HB9, rfl⟩
    obtain ⟨⟨hrow, hko⟩, hbl⟩ := hi
    exact ⟨⟨(hb9.block mb hrow.lt).trans hrow, hko.trans (KeptO.of_below (hb9.mono hNW))⟩, hbl.trans (hb9.mono (by omega))⟩
  case body =>
    rintro l pre x a' W hl hr ⟨⟨HBm, hko⟩, hbl⟩ ⟨Bx, t0, t1, t2, t4, t5, t6, t7, t10, t11, t12, t13, t14, t15, t16, t17, t18, t19, t20, t21, t22, t23, t24, t25, t26, t27, t28, t29, t30, t31, t32, t33, t34, t35, t36, t37, t38, t39, t40, t41, t42, hBx, HB9, rfl⟩ hlen
    obtain ⟨gk, hgk0, hgkl⟩ := legC_g hok.out x
    obtain ⟨yl, hy⟩ : ∃ z, Hid (legC a1 G D x = z) := ⟨_, Lib.hid rfl⟩
    have hyo : Hid (PlOk yl) := Lib.hid (by rw [← hy.out]; exact legC_ok hok.out x)
    rw [hy.out] at HB9 hgk0
    have hgk := Lib.hid hgk0
    rw [hgk0] at HB9
    clear hgk0
    obtain ⟨q9, hq9⟩ : ∃ z, Hid (brV yl b = z) := ⟨_, Lib.hid rfl⟩
    have HBR : Hid (∀ X : World, Calls Try.prog 46 #[.agg #[.int .i64 yl.s, .int .i64 yl.d, .int .i64 (gk : Int), .int .i64 yl.nu, .int .i64 yl.bs, .int .i64 yl.bd, .int .i64 yl.su, .int .i64 yl.o, .int .i64 yl.h], .int .i64 b] X fun e w' => e = .returned (.int .i64 q9) ∧ Below X.heap.size X w') := Lib.hid fun X => by
      have h := breathed_is yl b q9 X hyo hbb.1 hbb.2 hq9
      rw [hgk.out] at h
      exact h
    have hgn2 : gk < n2 := by have := hgn.out; omega
    obtain ⟨L, hL⟩ : ∃ z, Hid (conA b (legC a1 G D) n2 pre = z) := ⟨_, Lib.hid rfl⟩
    have hLl : L.length = n2 := by rw [← hL.out]; exact (conA_snocL b (legC a1 G D) n2 _ pre rfl).1
    have hLb := (conA_snocL b (legC a1 G D) n2 _ pre rfl).2 (legC_ok hok.out) hbb.1 hbb.2 gk
    rw [hL.out] at hLb HBm
    obtain ⟨c9, hc9⟩ : ∃ z, Hid (L.getD gk 0 = z) := ⟨_, Lib.hid rfl⟩
    rw [hc9.out] at hLb
    have hbq := brV_bd hyo.out hbb.1 hbb.2
    rw [hq9.out] at hbq
    have hlen2 : (pre.length : Int) * 6220000000000000 ≤ 60 * 6220000000000000 := by omega
    obtain ⟨s9, hs9⟩ : ∃ z, Hid (c9 + q9 = z) := ⟨_, Lib.hid rfl⟩
    have hwS : IntKind.i64.wrap (c9 + q9) = s9 := by rw [IntWalk.i64_in _ (by omega)]; exact hs9.out
    have hc : W.cell? ⟨mb, gk, none⟩ = some (.int .i64 c9) := by
      have hg : L[gk]? = some c9 := by rw [← hc9.out, List.getD_eq_getElem?_getD, List.getElem?_eq_getElem (by omega)]; rfl
      exact (HBm.blk (N := mb) (Nat.le_refl _)).at' gk _ (by rw [List.getElem?_map, hg]; rfl)
    have hNW : N ≤ W.heap.size := by rw [← hN]; exact hko.size
    have htb2 : tb < W.heap.size := by omega
    have hmbW : mb < W.heap.size := by omega
    have hrb : w.heap.size + 1 < W.heap.size := by omega
    rw [hN] at hbs
    have q0 : ¬ (gk : Int) < 0 := by omega
    have q1 : (gk : Int) < (n2 : Int) := by omega
    have HB := HB9.blk hBx
    obtain ⟨l0, l1, l2, l3, l4, l5, l6, l7, l8⟩ := b9 HB
    have s0 : W.cell? ⟨tb, 0, none⟩ = some (.slice (some ⟨mb, 0, none⟩) n2 n2) := (hko.cell (by omega) (by omega) 0).trans (b1 (bS.blk (N := tb) (Nat.le_refl _)))
    have s1 : W.cell? ⟨w.heap.size + 1, 0, none⟩ = some (.int .i64 b) := (hko.cell (by omega) (by omega) 0).trans (b1 WR)
    have HS : Hid (∀ y, Below W.heap.size W y → y.cell? ⟨tb, 0, none⟩ = some (.slice (some ⟨mb, 0, none⟩) n2 n2) ∧ y.cell? ⟨Bx, 0, none⟩ = some (.int .i64 yl.s) ∧ y.cell? ⟨Bx, 1, none⟩ = some (.int .i64 yl.d) ∧ y.cell? ⟨Bx, 2, none⟩ = some (.int .i64 (gk : Int)) ∧ y.cell? ⟨Bx, 3, none⟩ = some (.int .i64 yl.nu) ∧ y.cell? ⟨Bx, 4, none⟩ = some (.int .i64 yl.bs) ∧ y.cell? ⟨Bx, 5, none⟩ = some (.int .i64 yl.bd) ∧ y.cell? ⟨Bx, 6, none⟩ = some (.int .i64 yl.su) ∧ y.cell? ⟨Bx, 7, none⟩ = some (.int .i64 yl.o) ∧ y.cell? ⟨Bx, 8, none⟩ = some (.int .i64 yl.h) ∧ y.cell? ⟨mb, gk, none⟩ = some (.int .i64 c9) ∧ y.cell? ⟨w.heap.size + 1, 0, none⟩ = some (.int .i64 b)) := Lib.hid fun y hy => ⟨(hy.cell (p := ⟨tb, 0, none⟩) htb2).trans s0, (hy.cell (p := ⟨Bx, 0, none⟩) HB9.lt).trans l0, (hy.cell (p := ⟨Bx, 1, none⟩) HB9.lt).trans l1, (hy.cell (p := ⟨Bx, 2, none⟩) HB9.lt).trans l2, (hy.cell (p := ⟨Bx, 3, none⟩) HB9.lt).trans l3, (hy.cell (p := ⟨Bx, 4, none⟩) HB9.lt).trans l4, (hy.cell (p := ⟨Bx, 5, none⟩) HB9.lt).trans l5, (hy.cell (p := ⟨Bx, 6, none⟩) HB9.lt).trans l6, (hy.cell (p := ⟨Bx, 7, none⟩) HB9.lt).trans l7, (hy.cell (p := ⟨Bx, 8, none⟩) HB9.lt).trans l8, (hy.cell (p := ⟨mb, gk, none⟩) hmbW).trans hc, (hy.cell (p := ⟨w.heap.size + 1, 0, none⟩) hrb).trans s1⟩
    clear s0 s1 l0 l1 l2 l3 l4 l5 l6 l7 l8 HB hr hc hLb hbq hlen2
    refine wpIn_block ?_
    refine wpIn_round_heldZ (S := (fun w' => w'.cell? ⟨tb, 0, none⟩ = some (.slice (some ⟨mb, 0, none⟩) n2 n2) ∧ w'.cell? ⟨Bx, 0, none⟩ = some (.int .i64 yl.s) ∧ w'.cell? ⟨Bx, 1, none⟩ = some (.int .i64 yl.d) ∧ w'.cell? ⟨Bx, 2, none⟩ = some (.int .i64 (gk : Int)) ∧ w'.cell? ⟨Bx, 3, none⟩ = some (.int .i64 yl.nu) ∧ w'.cell? ⟨Bx, 4, none⟩ = some (.int .i64 yl.bs) ∧ w'.cell? ⟨Bx, 5, none⟩ = some (.int .i64 yl.bd) ∧ w'.cell? ⟨Bx, 6, none⟩ = some (.int .i64 yl.su) ∧ w'.cell? ⟨Bx, 7, none⟩ = some (.int .i64 yl.o) ∧ w'.cell? ⟨Bx, 8, none⟩ = some (.int .i64 yl.h) ∧ w'.cell? ⟨mb, gk, none⟩ = some (.int .i64 c9) ∧ w'.cell? ⟨w.heap.size + 1, 0, none⟩ = some (.int .i64 b))) 11 (by kernel_rfl) (by kernel_rfl) (not_letsOut_block not_letsOut_own) (by kernel_rfl) (by kernel_rfl) (HS.out _ (Below.refl _ _).drew) (fun hHeld => ?_)
    have hT0 : Below W.heap.size W W.drew := (Below.refl _ _).drew
    generalize hdr : W.drew = v0 at *
    clear hdr
    refine wpAnyZ_take (i := 0) (oi := ⟨some 31, _, _, _, _, _⟩) (v := ?_) (by kernel_rfl) (by kernel_rfl) rfl rfl (by kernel_rfl) (by kernel_rfl) (by kernel_rfl) (fun _ _ _ h => h) (Or.inl ⟨by kernel_rfl, ?_⟩) (by assumption) ?_
    rotate_left
    · (intro w hSw; (try dsimp only at hSw); go_simp; all_goals with_reducible rfl)
    try simp only [Act.put, sA, sB, sC]
    refine wpAnyZ_take (i := 1) (oi := ⟨some 32, _, _, _, _, _⟩) (v := ?_) (by kernel_rfl) (by kernel_rfl) rfl rfl (by kernel_rfl) (by kernel_rfl) (by kernel_rfl) (fun _ _ _ h => h) (Or.inl ⟨by kernel_rfl, ?_⟩) (by assumption) ?_
    rotate_left
    · (intro w hSw; (try dsimp only at hSw); go_simp; all_goals with_reducible rfl)
    try simp only [Act.put, sA, sB, sC]
    refine wpAnyZ_take (i := 2) (oi := ⟨some 33, _, _, _, _, _⟩) (v := ?_) (by kernel_rfl) (by kernel_rfl) rfl rfl (by kernel_rfl) (by kernel_rfl) (by kernel_rfl) (fun _ _ _ h => h) (Or.inl ⟨by kernel_rfl, ?_⟩) (by assumption) ?_
    rotate_left
    · (intro w hSw; (try dsimp only at hSw); go_simp; all_goals with_reducible rfl)
    try simp only [Act.put, sA, sB, sC]
    refine wpAnyZ_take (i := 3) (oi := ⟨some 34, _, _, _, _, _⟩) (v := ?_) (by kernel_rfl) (by kernel_rfl) rfl rfl (by kernel_rfl) (by kernel_rfl) (by kernel_rfl) (fun _ _ _ h => h) (Or.inl ⟨by kernel_rfl, ?_⟩) (by assumption) ?_
    rotate_left
    · (intro w hSw; (try dsimp only at hSw); go_simp; all_goals with_reducible rfl)
    try simp only [Act.put, sA, sB, sC]
    refine wpAnyZ_take (i := 4) (oi := ⟨some 35, _, _, _, _, _⟩) (v := ?_) (by kernel_rfl) (by kernel_rfl) rfl rfl (by kernel_rfl) (by kernel_rfl) (by kernel_rfl) (fun _ _ _ h => h) (Or.inl ⟨by kernel_rfl, ?_⟩) (by assumption) ?_
    rotate_left
    · (intro w hSw; (try dsimp only at hSw); go_simp; all_goals with_reducible rfl)
    try simp only [Act.put, sA, sB, sC]
    refine wpAnyZ_take (i := 5) (oi := ⟨some 36, _, _, _, _, _⟩) (v := ?_) (by kernel_rfl) (by kernel_rfl) rfl rfl (by kernel_rfl) (by kernel_rfl) (by kernel_rfl) (fun _ _ _ h => h) (Or.inl ⟨by kernel_rfl, ?_⟩) (by assumption) ?_
    rotate_left
    · (intro w hSw; (try dsimp only at hSw); go_simp; all_goals with_reducible rfl)
    try simp only [Act.put, sA, sB, sC]
    refine wpAnyZ_take (i := 6) (oi := ⟨some 37, _, _, _, _, _⟩) (v := ?_) (by kernel_rfl) (by kernel_rfl) rfl rfl (by kernel_rfl) (by kernel_rfl) (by kernel_rfl) (fun _ _ _ h => h) (Or.inl ⟨by kernel_rfl, ?_⟩) (by assumption) ?_
    rotate_left
    · (intro w hSw; (try dsimp only at hSw); go_simp; all_goals with_reducible rfl)
    try simp only [Act.put, sA, sB, sC]
    refine wpAnyZ_take (i := 7) (oi := ⟨some 38, _, _, _, _, _⟩) (v := ?_) (by kernel_rfl) (by kernel_rfl) rfl rfl (by kernel_rfl) (by kernel_rfl) (by kernel_rfl) (fun _ _ _ h => h) (Or.inl ⟨by kernel_rfl, ?_⟩) (by assumption) ?_
    rotate_left
    · (intro w hSw; (try dsimp only at hSw); go_simp; all_goals with_reducible rfl)
    try simp only [Act.put, sA, sB, sC]
    refine wpAnyZ_call (q := 8) (by kernel_rfl) rfl rfl (fun K hK => ?_)
    go_simp
    refine (HBR.out _).mono ?_
    rintro e v1 ⟨rfl, hbv0⟩
    have hT1 : Below W.heap.size W v1 := hT0.trans (hbv0.mono hT0.size)
    clear hbv0
    go_wp2_with fail
    refine hK.out _ _ (HS.out _ hT1) (fun hHeld => ?_)
    clear hK K
    try simp only [Act.put, sA, sB, sC]
    refine wpAnyZ_take (i := 9) (oi := ⟨some 40, _, _, _, _, _⟩) (v := ?_) (by kernel_rfl) (by kernel_rfl) rfl rfl (by kernel_rfl) (by kernel_rfl) (by kernel_rfl) (fun _ _ _ h => h) (Or.inl ⟨by kernel_rfl, ?_⟩) (by assumption) ?_
    rotate_left
    · (intro w hSw; (try dsimp only at hSw); go_simp; all_goals with_reducible rfl)
    try simp only [Act.put, sA, sB, sC]
    refine wpAnyZ_take (i := 10) (oi := ⟨some 41, _, _, _, _, _⟩) (v := ?_) (by kernel_rfl) (by kernel_rfl) rfl rfl (by kernel_rfl) (by kernel_rfl) (by kernel_rfl) (fun _ _ _ h => h) (Or.inl ⟨by kernel_rfl, ?_⟩) (by assumption) ?_
    rotate_left
    · (intro w hSw; (try dsimp only at hSw); go_simp; all_goals with_reducible rfl)
    try simp only [Act.put, sA, sB, sC]
    have HTV := Lib.hid hT1
    have HBM : BoxN v1 mb 3 (L.map fun x => Value.int .i64 x) := (hT1.block mb hmbW).trans HBm
    have hfz := (HBM.blk (N := mb) (Nat.le_refl _)).fz gk
    have hcl := (HS.out _ hT1).2.2.2.2.2.2.2.2.2.2.1
    refine wpAnyZ_last (by kernel_rfl) rfl (fun K hK => ?_)
    go_simp
    go_wp2_with fail
    refine hK.out _ _ ?_
    clear hK K
    try simp only [Act.put, sA, sB, sC]
    have k2 := HBM.set gk (.int .i64 s9)
    have k6 : KeptO N mb v1 (v1.setCell ⟨mb, gk, none⟩ (.int .i64 s9)) := ⟨by simp, fun b _ hn => Below.heap_setCell _ _ _ b (fun e => hn (by rw [e]))⟩
    have k5 : Below mb v1 (v1.setCell ⟨mb, gk, none⟩ (.int .i64 s9)) := (Below.refl _ _).setCell (p := ⟨mb, gk, none⟩) (Nat.le_refl _) _
    refine ⟨(keepsFrom_below _ HTV.out).trans ((KeepsOthers.setCell _ _ _).from _), (((KeptO.of_below (HTV.out.mono hNW)).trans k6).kpB hbs), ⟨?_, hko.trans ((KeptO.of_below (HTV.out.mono hNW)).trans k6)⟩, hbl.trans ((HTV.out.mono (by omega)).trans k5)⟩
    have e9 : conA b (legC a1 G D) n2 (pre ++ [x]) = L.set gk s9 := by rw [conA_snoc, hL.out, hy.out]; unfold conStep; rw [hgk.out, Int.toNat_natCast, hc9.out, hq9.out, hs9.out]
    rw [e9, List.map_set]
    exact k2
  case done =>
    rintro Dq xs W hDq rfl ⟨⟨HBm, hko⟩, hbl⟩ hK
    have hLL : conA b (legC a1 G D) n2 (List.range n3) = conA b (legK a1 G D) n2 (List.range n3) := by
      refine conA_congr fun k hk => ?_
      rw [legC_is (by have := hdn.out; have := List.mem_range.1 hk; omega)]
    have hlen := (conA_snocL b (legC a1 G D) n2 _ (List.range n3) rfl).1
    rw [hLL] at HBm hlen
    have s0 : W.cell? ⟨tb, 0, none⟩ = some (.slice (some ⟨mb, 0, none⟩) n2 n2) := (hko.cell (by omega) (by omega) 0).trans (b1 (bS.blk (N := tb) (Nat.le_refl _)))
    have hmD : mb ≠ Dq := fun e => by have h := (show W.heap[mb]? = _ from HBm); rw [e, hK] at h; cases h
    have hS5 : SlRows inV 1 (W.putObj Dq (.deferred none)) (some ⟨mb, 0, none⟩) (conA b (legK a1 G D) n2 (List.range n3)) := by
      refine Or.inr ⟨mb, 0, rfl, by have := HBm.lt; simpa using this, fun k hk i hi => ?_⟩
      obtain rfl : i = 0 := by omega
      have hc := (HBm.blk (N := mb) (Nat.le_refl _)).at' k (.int .i64 ((conA b (legK a1 G D) n2 (List.range n3))[k])) (by rw [List.getElem?_map, List.getElem?_eq_getElem hk]; rfl)
      refine (World.cell?_of_block (a := ⟨mb, _, none⟩) (World.putObj_heap_other hmD)).trans ?_
      have e : 0 + k * 1 + 0 = k := by omega
      rw [e]
      exact hc
    gi_wp2
    refine ⟨by simp, .inl ⟨_, _, rfl, run_takeDeferred hK, ?_⟩⟩
    refine ⟨_, results_tmp2 rfl _ _ _, ⟨mb, rfl, hS5, by have := hBW.size; have := hB3.size; omega, ?_⟩⟩
    exact (hBW.trans (hbl.mono (by have := hB3.size; omega))).trans (belowK_b (w := w) (Nat.le_refl _) W Dq _ _ (by have := hBW.size; omega) hK rfl rfl)
  case stop =>
    rintro Dq c pre W _ _ h _
    exact h.elim
end Go.Proofs.Ytgidmmmdpmophaa
