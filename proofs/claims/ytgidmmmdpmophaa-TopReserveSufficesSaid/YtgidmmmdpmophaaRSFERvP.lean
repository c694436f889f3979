import Derived.Test.YtgidmmmdpmophaaRSFERvM
import Derived.Test.YtgidmmmdpmophaaRSFESvb
import Derived.Outline
namespace Go.Proofs.Ytgidmmmdpmophaa
open Go.Shelf Go.ChangeShapes Go.WideShapes Go.ChangeAt Go.RowKit
set_option linter.unusedVariables false
set_option linter.unusedSimpArgs false
attribute [local go_sem] Oper.semAt_some
attribute [local go_sem ↓] Go.wp_at_zero Go.wp_at_succ
def nvV (x : Int × Int) : List Value := [.int .i64 x.1, .int .i64 x.2]
theorem infoNv : (Try.prog.info? 55).map (fun i => (i.zero, i.size, i.bytes)) = some (some (.agg #[.int .i64 0, .int .i64 0]), 2, 16) := by kernel_rfl
theorem rows_set_nv (v s : Int) (zs : List Value) : ∀ (l : List (Int × Int)) (g : Nat), g < l.length → ((rowsV nvV l ++ zs).set (g * 2) (.int .i64 v)).set (g * 2 + 1) (.int .i64 s) = rowsV nvV (l.set g (v, s)) ++ zs
  | [], g, h => by simp at h
  | x :: l, 0, _ => by simp [rowsV, nvV]
  | x :: l, g + 1, h => by
    have ih := rows_set_nv v s zs l g (by simpa using h)
    have e : rowsV nvV (x :: l) = .int .i64 x.1 :: .int .i64 x.2 :: rowsV nvV l := by simp [rowsV, nvV]
    have e2 : rowsV nvV ((x :: l).set (g + 1) (v, s)) = .int .i64 x.1 :: .int .i64 x.2 :: rowsV nvV (l.set g (v, s)) := by simp [rowsV, nvV]
    rw [e, e2, show (g + 1) * 2 = g * 2 + 1 + 1 by omega]
    simp only [List.cons_append, List.set_cons_succ]
    rw [ih]
theorem rowsV_get_nv {l : List (Int × Int)} {g : Nat} (h : g < l.length) (zs : List Value) : (rowsV nvV l ++ zs)[g * 2]? = some (.int .i64 (l.getD g (0, -1)).1) := by
  induction l generalizing g with
  | nil => simp at h
  | cons x l ih =>
    have e : rowsV nvV (x :: l) = .int .i64 x.1 :: .int .i64 x.2 :: rowsV nvV l := by simp [rowsV, nvV]
    cases g with
    | zero => rw [e]; simp
    | succ g =>
      rw [e, show (g + 1) * 2 = g * 2 + 1 + 1 by omega]
      simp only [List.cons_append, List.getElem?_cons_succ]
      rw [ih (by simpa using h)]
      rfl
theorem rowsV_get2_nv {l : List (Int × Int)} {g : Nat} (h : g < l.length) (zs : List Value) : (rowsV nvV l ++ zs)[g * 2 + 1]? = some (.int .i64 (l.getD g (0, -1)).2) := by
  induction l generalizing g with
  | nil => simp at h
  | cons x l ih =>
    have e : rowsV nvV (x :: l) = .int .i64 x.1 :: .int .i64 x.2 :: rowsV nvV l := by simp [rowsV, nvV]
    cases g with
    | zero => rw [e]; simp
    | succ g =>
      rw [e, show (g + 1) * 2 + 1 = g * 2 + 1 + 1 + 1 by omega]
      simp only [List.cons_append, List.getElem?_cons_succ]
      rw [ih (by simpa using h)]
      rfl
theorem box_sl {X : World} {b : Nat} {t : TypeId} {l : List (Int × Int)} {zs : List Value} (h : BoxN X b t (rowsV nvV l ++ zs)) : SlRows nvV 2 X (some ⟨b, 0, none⟩) l := by
  refine Or.inr ⟨b, 0, rfl, h.lt, fun k hk i hi => ?_⟩
  have hB := (BoxN.blk (N := 0) h (Nat.zero_le _)).at'
  have e3 : l[k] = l.getD k (0, -1) := by rw [List.getD_eq_getElem?_getD, List.getElem?_eq_getElem hk]; rfl
  rcases i with _ | _ | i
  · rw [show 0 + k * 2 + 0 = k * 2 by omega, e3]
    exact hB _ _ (rowsV_get_nv hk zs)
  · rw [show 0 + k * 2 + (0 + 1) = k * 2 + 1 by omega, e3]
    exact hB _ _ (rowsV_get2_nv hk zs)
  · omega
/-- A row of the call's own, as a block with what is spare. -/
theorem own_box {X : World} {N n c : Nat} {C : Option Addr} {e : TypeId} {l : List (Int × Int)} (h : X.ownsRow N e 2 (.slice C n c) n (rowsV nvV l)) (h0 : 0 < n) : ∃ mb zs, C = some ⟨mb, 0, none⟩ ∧ N ≤ mb ∧ BoxN X mb e (rowsV nvV l ++ zs) := by
  rcases h.2 with ⟨_, h1⟩ | ⟨g, cap, cur, h1, h2, h3, _, _, _, h7⟩
  · omega
  · cases h1
    refine ⟨g, cur.toList.drop (n * 2), rfl, h2, ?_⟩
    show X.heap[g]? = some (.cells (rowsV nvV l ++ cur.toList.drop (n * 2)).toArray e (0, 0))
    rw [← h7, List.take_append_drop]
    simpa using h3
theorem cFirst3X (x y z E : Int) (b : Nat) (w : World) {B : Nat} (hE : Hid (firE [x, y, z] = E)) (h : BlkF w B b [.int .i64 x, .int .i64 y, .int .i64 z]) : Calls Try.prog 27 #[.slice (some ⟨b, 0, none⟩) 3 3] w fun e w' => e = .returned (.int .i64 E) ∧ Below w.heap.size w w' := by
  rw [← hE.out]
  exact cFirstB [x, y, z] b 0 3 w rfl (by simp) (by simp) (blk_ints (l := [x, y, z]) h)
theorem needs_iR (nm : ByteArray) (s : Int) (A B P : Option Addr) (gn gc dn dc pc : Nat) (E9 : Int) (r : Ru) (AT : Option Addr) (tn tc : Nat) (t : Int) (w : World) :
    Calls Try.prog 30 #[.agg #[.string nm, .int .i64 s, .slice A gn gc, .slice B dn dc, .slice P (dn + 1) pc, .int .i64 E9], .agg #[.slice AT tn tc, .int .i64 r.a, .int .i64 r.b, .int .i64 r.nc, .int .i64 r.dn, .int .i64 r.br, .int .i64 r.em, .int .i64 r.pa, .int .i64 r.sc], .int .i64 t] w fun e w' => e = .returned (.func (.func 53) #[] #[.pointer (some ⟨w.heap.size + 1 + 1, 0, none⟩), .pointer (some ⟨w.heap.size, 0, none⟩), .pointer (some ⟨w.heap.size + 1, 0, none⟩)]) ∧ ((w.alloc (.cells #[.string nm, .int .i64 s, .slice A gn gc, .slice B dn dc, .slice P (dn + 1) pc, .int .i64 E9] 67)).alloc (.cells #[.slice AT tn tc, .int .i64 r.a, .int .i64 r.b, .int .i64 r.nc, .int .i64 r.dn, .int .i64 r.br, .int .i64 r.em, .int .i64 r.pa, .int .i64 r.sc] 30)).alloc (.cells #[.int .i64 t] 3) = w' := by
  go_enter Try.func30, Try.ntmps30
  go_wp2
  go_ret
  exact ⟨rfl, rfl⟩
/-- What the loop over the gases has made. -/
def RvI (N tb : Nat) (W0 : World) (k : Nat) (C : Option Addr) (c : Nat) (X : World) : Prop := Boxed X tb 37 (.slice C k c) ∧ X.ownsRow N 55 2 (.slice C k c) k (rowsV nvV (List.replicate k (0, -1))) ∧ Below tb W0 X ∧ N ≤ X.heap.size
theorem ndN_ltR {D : List Le} {k : Nat} (h : k < ndN D 0) : 0 < D.length ∧ (k : Int) ≤ secT D D.length := by
  unfold ndN at h
  by_cases e : D.length = 0
  · rw [if_pos e] at h; omega
  · rw [if_neg e] at h; omega
set_option maxRecDepth 100000 in
set_option maxHeartbeats 8000000 in
theorem Reserves_any (nm : ByteArray) (s : Int) (G : List Ga) (D : List Le) (A B : Option Addr) (gn gc dn dc : Nat) (T : List Ox) (r : Ru) (AT : Option Addr) (tn tc : Nat) (gF : Nat → Nat) (vF sF : Nat → Int) (NN : Nat) (N0 : Nat) (E0 E1 E : Int) (w : World) (hz : nm.size ≤ 9223372036854775807) (hgn : Hid (gn = G.length)) (hgl : gn ≤ 9223372036854775807) (hdn : Hid (dn = D.length)) (hdl : dn ≤ 9223372036854775807) (hG : Hid (SlRows gaV 2 w A G)) (hD : Hid (SlRows leV 3 w B D)) (htn : Hid (tn = T.length)) (htl : tn ≤ 9223372036854775807) (hT : Hid (SlRows oxV 2 w AT T)) (hE0 : Hid (plnP nm s G D = (N0, E0))) (hE1 : Hid (ruE T r = E1)) (hE : Hid (firE [E0, E1, if 20000 < secT D dn then (8 : Int) else 0] = E)) (hF : Hid (∀ i : Nat, gF i = ndG s G D (0 + (i : Int)) ∧ vF i = ndV r s G D (0 + (i : Int)) ∧ sF i = 0 + (i : Int))) (hNN : Hid (ndN D 0 = NN)) :
    Calls Try.prog 10 #[.agg #[.string nm, .int .i64 s, .slice A gn gc, .slice B dn dc], .agg #[.slice AT tn tc, .int .i64 r.a, .int .i64 r.b, .int .i64 r.nc, .int .i64 r.dn, .int .i64 r.br, .int .i64 r.em, .int .i64 r.pa, .int .i64 r.sc]] w fun e w' => (¬ E = 0 ∧ e = .returned (.tuple #[.slice none 0 0, .int .i64 E]) ∧ Below w.heap.size w w') ∨ (E = 0 ∧ ∃ mb cm, e = .returned (.tuple #[.slice (some ⟨mb, 0, none⟩) gn cm, .int .i64 0]) ∧ SlRows nvV 2 w' (some ⟨mb, 0, none⟩) (rvG rvS gF vF sF gn NN) ∧ w.heap.size ≤ mb ∧ Below w.heap.size w w') := by
  obtain ⟨i0, hi, hz0', hz1', hz2'⟩ := info_partsG infoNv
  have HI := Lib.hid hi
  have HZ0 := Lib.hid hz0'
  have HZ1 := Lib.hid hz1'
  have HZ2 := Lib.hid hz2'
  clear hi hz0' hz1' hz2'
  refine (callsIn_wide (n := 12)).1 ?_
  refine callsIn_of_wp_marks Try.func10 rfl trivial ?_ rfl
  simp only [Try.ntmps10, List.size_toArray, List.length_cons, List.length_nil, Nat.reduceAdd, Nat.reduceSub, Array.replicate_succ, Array.replicate_zero, List.push_toArray, List.append_toArray, List.nil_append, List.cons_append]
  gi_wp2_with fail
  have hb0 : Below w.heap.size w ((w.alloc (.cells #[.string nm, .int .i64 s, .slice A gn gc, .slice B dn dc] 25)).alloc (.cells #[.slice AT tn tc, .int .i64 r.a, .int .i64 r.b, .int .i64 r.nc, .int .i64 r.dn, .int .i64 r.br, .int .i64 r.em, .int .i64 r.pa, .int .i64 r.sc] 30)) := ((Below.refl _ _).alloc (Nat.le_refl _) _).alloc (by simp) _
  have Zr := BlkF.made (B := w.heap.size) (w.alloc (.cells #[.string nm, .int .i64 s, .slice A gn gc, .slice B dn dc] 25)) [.slice AT tn tc, .int .i64 r.a, .int .i64 r.b, .int .i64 r.nc, .int .i64 r.dn, .int .i64 r.br, .int .i64 r.em, .int .i64 r.pa, .int .i64 r.sc] 30 (by simp)
  simp only [World.size_alloc] at Zr
  refine ⟨trivial, callsIn_world (fun X => Below w.heap.size w X ∧ BlkF X w.heap.size (w.heap.size + 1) [.slice AT tn tc, .int .i64 r.a, .int .i64 r.b, .int .i64 r.nc, .int .i64 r.dn, .int .i64 r.br, .int .i64 r.em, .int .i64 r.pa, .int .i64 r.sc]) ⟨hb0, Zr⟩ (fun x0 hx0 => ?_)⟩
  clear Zr hb0
  obtain ⟨hb0, Zr⟩ := hx0
  refine (callsIn_wide.2 (follow_x nm s G D A B gn gc dn dc N0 E0 x0 hz hgn hgl hdn hdl (Lib.hid (hG.out.below hb0)) (Lib.hid (hD.out.below hb0)) hE0)).mono ?_
  rintro e x1 ⟨a0, a1, a2, n2, c2, a3, n3, c3, a4, n4, c4, a5, rfl, hn3, hn2, hfg, hb1⟩
  have HFG := Lib.hid hfg
  have hB1 := hb0.trans (hb1.mono hb0.size)
  replace Zr := Zr.below hb1
  obtain ⟨rb, hrb⟩ : ∃ z, w.heap.size + 1 = z := ⟨_, rfl⟩
  rw [hrb] at Zr ⊢
  clear hb1 hb0 hfg
  obtain ⟨E2, hE2x⟩ : ∃ z : Int, Hid ((if 20000 < a5 then (8 : Int) else 0) = z) := ⟨_, Lib.hid rfl⟩
  have hEX : Hid (firE [E0, E1, E2] = E) := Lib.hid (by
    rw [← hE.out]
    refine fir_x fun h => ?_
    have h5 := (HFG.out h).1.2.2.2.2.2.2.2.2.2
    rw [← hE2x.out, h5])
  have hE2 : Hid (E0 = 0 → (if 20000 < secT D dn then (8 : Int) else 0) = E2) := Lib.hid (fun h => by rw [← hE2x.out, (HFG.out h).1.2.2.2.2.2.2.2.2.2])
  gi_upto_region 2 with (fail)
  refine ex_world (fun X => Below x1.heap.size x1 X ∧ BlkF X x1.heap.size x1.heap.size [.string a0, .int .i64 a1, .slice a2 n2 c2, .slice a3 n3 c3, .slice a4 n4 c4, .int .i64 a5]) ⟨(Below.refl _ _).alloc (Nat.le_refl _) _, BlkF.made (B := x1.heap.size) x1 [.string a0, .int .i64 a1, .slice a2 n2 c2, .slice a3 n3 c3, .slice a4 n4 c4, .int .i64 a5] 67 (Nat.le_refl _)⟩ (fun u hu => ?_)
  obtain ⟨hbu, Zf⟩ := hu
  have hBu := hB1.trans (hbu.mono hB1.size)
  replace Zr := Zr.below hbu
  replace HFG := Lib.hid (HFG.out.below hbu)
  have hbu0 := Below.refl u.heap.size u
  obtain ⟨xf, hxf⟩ : ∃ z, x1.heap.size = z := ⟨_, rfl⟩
  rw [hxf] at Zf ⊢
  have lf := Zf.lt
  have lr := Zr.lt
  have hwx : w.heap.size ≤ xf := by rw [← hxf]; exact hB1.size
  obtain ⟨f0, f1, f2, f3, f4, f5⟩ := b6 Zf
  obtain ⟨r0, r1, r2, r3, r4, r5, r6, r7, r8⟩ := b9 Zr
  have HTU : Hid (∀ y, Below u.heap.size u y → SlRows oxV 2 y AT T) := Lib.hid fun y hy => hT.out.below (hBu.trans (hy.mono hBu.size))
  have HS : Hid (∀ y, Below u.heap.size u y → y.cell? ⟨xf, 0, none⟩ = some (.string a0) ∧ y.cell? ⟨xf, 1, none⟩ = some (.int .i64 a1) ∧ y.cell? ⟨xf, 2, none⟩ = some (.slice a2 n2 c2) ∧ y.cell? ⟨xf, 3, none⟩ = some (.slice a3 n3 c3) ∧ y.cell? ⟨xf, 4, none⟩ = some (.slice a4 n4 c4) ∧ y.cell? ⟨xf, 5, none⟩ = some (.int .i64 a5) ∧ y.cell? ⟨rb, 0, none⟩ = some (.slice AT tn tc) ∧ y.cell? ⟨rb, 1, none⟩ = some (.int .i64 r.a) ∧ y.cell? ⟨rb, 2, none⟩ = some (.int .i64 r.b) ∧ y.cell? ⟨rb, 3, none⟩ = some (.int .i64 r.nc) ∧ y.cell? ⟨rb, 4, none⟩ = some (.int .i64 r.dn) ∧ y.cell? ⟨rb, 5, none⟩ = some (.int .i64 r.br) ∧ y.cell? ⟨rb, 6, none⟩ = some (.int .i64 r.em) ∧ y.cell? ⟨rb, 7, none⟩ = some (.int .i64 r.pa) ∧ y.cell? ⟨rb, 8, none⟩ = some (.int .i64 r.sc)) := Lib.hid fun y hy => ⟨(hy.cell (p := ⟨xf, 0, none⟩) lf).trans f0, (hy.cell (p := ⟨xf, 1, none⟩) lf).trans f1, (hy.cell (p := ⟨xf, 2, none⟩) lf).trans f2, (hy.cell (p := ⟨xf, 3, none⟩) lf).trans f3, (hy.cell (p := ⟨xf, 4, none⟩) lf).trans f4, (hy.cell (p := ⟨xf, 5, none⟩) lf).trans f5, (hy.cell (p := ⟨rb, 0, none⟩) lr).trans r0, (hy.cell (p := ⟨rb, 1, none⟩) lr).trans r1, (hy.cell (p := ⟨rb, 2, none⟩) lr).trans r2, (hy.cell (p := ⟨rb, 3, none⟩) lr).trans r3, (hy.cell (p := ⟨rb, 4, none⟩) lr).trans r4, (hy.cell (p := ⟨rb, 5, none⟩) lr).trans r5, (hy.cell (p := ⟨rb, 6, none⟩) lr).trans r6, (hy.cell (p := ⟨rb, 7, none⟩) lr).trans r7, (hy.cell (p := ⟨rb, 8, none⟩) lr).trans r8⟩
  clear f0 f1 f2 f3 f4 f5 r0 r1 r2 r3 r4 r5 r6 r7 r8 lf lr hB1 hbu hxf
  refine wpIn_np ?_
  refine wpIn_wide.2 ?_
  refine wp_region_held_drew (S := (fun w' => w'.cell? ⟨xf, 0, none⟩ = some (.string a0) ∧ w'.cell? ⟨xf, 1, none⟩ = some (.int .i64 a1) ∧ w'.cell? ⟨xf, 2, none⟩ = some (.slice a2 n2 c2) ∧ w'.cell? ⟨xf, 3, none⟩ = some (.slice a3 n3 c3) ∧ w'.cell? ⟨xf, 4, none⟩ = some (.slice a4 n4 c4) ∧ w'.cell? ⟨xf, 5, none⟩ = some (.int .i64 a5) ∧ w'.cell? ⟨rb, 0, none⟩ = some (.slice AT tn tc) ∧ w'.cell? ⟨rb, 1, none⟩ = some (.int .i64 r.a) ∧ w'.cell? ⟨rb, 2, none⟩ = some (.int .i64 r.b) ∧ w'.cell? ⟨rb, 3, none⟩ = some (.int .i64 r.nc) ∧ w'.cell? ⟨rb, 4, none⟩ = some (.int .i64 r.dn) ∧ w'.cell? ⟨rb, 5, none⟩ = some (.int .i64 r.br) ∧ w'.cell? ⟨rb, 6, none⟩ = some (.int .i64 r.em) ∧ w'.cell? ⟨rb, 7, none⟩ = some (.int .i64 r.pa) ∧ w'.cell? ⟨rb, 8, none⟩ = some (.int .i64 r.sc))) (by kernel_rfl) (HS.out _ (Below.refl _ _).drew) (fun hHeld => ?_)
  have hT0 : Below u.heap.size u u.drew := (Below.refl _ _).drew
  generalize hdr : u.drew = v0 at *
  clear hdr
  refine tkH 0 ⟨some 16, _, _, _, _, _⟩ ?_ rfl ?_ (by assumption) ?_
  rotate_left
  · (intro w hSw; (try dsimp only at hSw); go_simp; all_goals with_reducible rfl)
  try simp only [Act.put, sA, sB, sC]
  refine tkH 1 ⟨some 17, _, _, _, _, _⟩ ?_ rfl ?_ (by assumption) ?_
  rotate_left
  · (intro w hSw; (try dsimp only at hSw); go_simp; all_goals with_reducible rfl)
  try simp only [Act.put, sA, sB, sC]
  refine tkH 3 ⟨some 19, _, _, _, _, _⟩ ?_ rfl ?_ (by assumption) ?_
  rotate_left
  · (intro w hSw; (try dsimp only at hSw); go_simp; all_goals with_reducible rfl)
  try simp only [Act.put, sA, sB, sC]
  refine wpAnyH_ready (rs := [2]) (by kernel_rfl) (by simp) ?_
  refine AllReadyH.cons rfl (fun K hK => ?_) (AllReadyH.nil)
  go_simp
  refine (CheckRules_any T r AT tn tc E1 _ htn htl (HTU.out _ hT0) hE1).mono ?_
  rintro e v1 ⟨rfl, hbv0⟩
  have hT1 : Below u.heap.size u v1 := hT0.trans (hbv0.mono hT0.size)
  clear hbv0
  go_wp2_with fail
  refine hK.out _ _ (HS.out _ hT1) (fun hHeld => ?_)
  clear hK K
  try simp only [Act.put, sA, sB, sC]
  refine wpAnyH_ready (rs := [4]) (by kernel_rfl) (by simp) ?_
  refine AllReadyH.cons rfl (fun K hK => ?_) (AllReadyH.nil)
  go_simp
  refine (checkTrace_x a0 a1 a2 n2 c2 a3 n3 c3 a4 n4 c4 a5 E2 _ hE2x).mono ?_
  rintro e v2 ⟨rfl, hbv1⟩
  have hT2 : Below u.heap.size u v2 := hT1.trans (hbv1.mono hT1.size)
  clear hbv1
  go_wp2_with fail
  refine hK.out _ _ (HS.out _ hT2) (fun hHeld => ?_)
  clear hK K
  try simp only [Act.put, sA, sB, sC]
  refine wpAnyH_ready (rs := [5]) (by kernel_rfl) (by simp) ?_
  refine AllReadyH.cons rfl (fun K hK => ?_) (AllReadyH.nil)
  go_simp
  go_wp2_with fail
  refine hK.out _ _ (HS.out _ (hT2.alloc hT2.size _)) (fun hHeld => ?_)
  clear hK K
  try simp only [Act.put, sA, sB, sC]
  have HNbz := Lib.hid (BlkF.made (B := u.heap.size) v2 [.int .i64 E0, .int .i64 E1, .int .i64 E2] 38 hT2.size)
  have hbv2 : Below v2.heap.size v2 (v2.alloc (.cells #[.int .i64 E0, .int .i64 E1, .int .i64 E2] 38)) := (Below.refl _ _).alloc (Nat.le_refl _) _
  have hnbz : u.heap.size ≤ v2.heap.size := hT2.size
  have exbz : ∃ x, v2.heap.size = x := ⟨_, rfl⟩
  generalize hq2 : v2.alloc (.cells #[.int .i64 E0, .int .i64 E1, .int .i64 E2] 38) = v3 at *
  have hT3 : Below u.heap.size u v3 := hT2.trans (hbv2.mono hT2.size)
  obtain ⟨bz, ebz⟩ := exbz
  rw [ebz] at HNbz hnbz ⊢
  clear hbv2 hq2
  refine wpAnyH_ready (rs := [6]) (by kernel_rfl) (by simp) ?_
  refine AllReadyH.cons rfl (fun K hK => ?_) (AllReadyH.nil)
  go_simp
  refine (cFirst3X E0 E1 E2 E bz _ hEX HNbz.out).mono ?_
  rintro e v4 ⟨rfl, hbv3⟩
  have hT4 : Below u.heap.size u v4 := hT3.trans (hbv3.mono hT3.size)
  replace HNbz := Lib.hid (HNbz.out.below hbv3)
  clear hbv3
  go_wp2_with fail
  refine hK.out _ _ (HS.out _ hT4) (fun hHeld => ?_)
  clear hK K
  try simp only [Act.put, sA, sB, sC]
  refine tkH 7 ⟨some 7, _, _, _, _, _⟩ ?_ rfl ?_ (by assumption) ?_
  rotate_left
  · (intro w hSw; (try dsimp only at hSw); go_simp; all_goals with_reducible rfl)
  try simp only [Act.put, sA, sB, sC]
  refine wpAnyH_done (by kernel_rfl) ?_ _
  obtain ⟨x3, rfl⟩ : ∃ z, z = v4 := ⟨_, rfl⟩
  have hT := hT4
  clear hHeld HS HNbz
  replace hBu := hBu.trans (hT.mono hBu.size)
  replace Zf := Zf.below hT
  replace Zr := Zr.below hT
  have HF3 := Lib.hid (HFG.out.below (hbu0.trans (hT.mono hbu0.size)))
  clear hT HFG hbu0
  by_cases hEE : ¬ E = 0
  · have hE3' : (E != 0) = true := by simpa using hEE
    gi_wp2
    exact ⟨_, results_tmp2 rfl _ _ _, Or.inl ⟨hEE, rfl, hBu⟩⟩
  obtain rfl : E = 0 := by omega
  obtain ⟨rfl, rfl, rfl⟩ : E0 = 0 ∧ E1 = 0 ∧ E2 = 0 := by
    have := firE_all hEX.out
    exact ⟨this _ (by simp), this _ (by simp), this _ (by simp)⟩
  obtain ⟨⟨e0, e1, e2, e3, e4, e5, e6, e7, e8, e9⟩, hP⟩ := HF3.out rfl
  have HPx := Lib.hid hP
  clear hP HF3 hEX hEE hE2 hE
  replace e0 := e0.symm
  replace e1 := e1.symm
  replace e2 := e2.symm
  replace e3 := e3.symm
  replace e4 := e4.symm
  replace e5 := e5.symm
  replace e6 := e6.symm
  replace e7 := e7.symm
  subst e0
  subst e1
  subst e2
  subst e3
  subst e4
  subst e5
  subst e6
  subst e7
  subst e8
  subst e9
  have hok := Lib.hid (pln_ok hE0.out)
  have hru := Lib.hid (ru_ok hE1.out)
  have hS9 : Hid (secT D D.length ≤ 20000) := Lib.hid (by have h := hE2x.out; rw [← hdn.out]; by_cases e : 20000 < secT D dn; rw [if_pos e] at h; exact absurd h (by decide); omega)
  have ht9 : Hid ((0 : Int) ≤ secT D D.length) := Lib.hid (hok.out.sec _).1
  have hshort : Hid (∀ k, (legC s G D k).s ≤ 20000) := Lib.hid (fun k => leg_short hok.out hS9.out k)
  have g8 : gn ≤ 8 := by have := hok.out.g8; have := hgn.out; omega
  have g0 : 0 < gn := by have := hok.out.g0; have := hgn.out; omega
  have hgL : Hid (∀ i, i < ndN D 0 → gF i < gn) := Lib.hid fun i hi => by
    have h := ndN_ltR hi
    rw [(hF.out i).1, hgn.out]
    exact (ndG_lt hok.out h.1 (by rw [Int.zero_add]; exact h.2)).1
  obtain ⟨f0, f1, f2, f3, f4, f5⟩ := b6 Zf
  have lxf := Zf.lt
  have lrb := Zr.lt
  gi_wp2_with fail
  obtain ⟨tb, htb⟩ : ∃ z, x3.heap.size = z := ⟨_, rfl⟩
  have ltx : xf < tb := by omega
  have ltr : rb < tb := by omega
  have htw : x1.heap.size ≤ tb ∨ True := Or.inr trivial
  rw [htb]
  have hbsz := hBu.size
  have hwtb : w.heap.size ≤ tb := by omega
  have htbH := Lib.hid htb
  clear htb htw hbsz
  gi_loopw [30] (fun i wr => ∃ (k : Nat) (C : Option Addr) (c : Nat), k ≤ gn ∧ i = .int .i64 k ∧ Hid (RvI (tb + 1) tb x3 k C c wr)) (fun i _ => gn - (intOf i).toNat)
  case atStart => exact ⟨0, none, 0, by omega, rfl, Lib.hid (by unfold RvI; rw [← htbH.out]; exact ⟨Boxed.new x3 37 _, ⟨by simp [rowsV], Or.inl ⟨rfl, rfl⟩⟩, (Below.refl _ _).alloc (Nat.le_refl _) _, by simp⟩)⟩
  case round =>
    clear f0 f1 f2 f3 f4 f5
    obtain ⟨k, C, cm, hk, rfl, HIV⟩ := hrel
    obtain ⟨bX, rX, hbl, hNX0⟩ := HIV.out
    have hb3 : Below x3.heap.size x3 wr := by rw [htbH.out]; exact hbl
    replace Zf := Zf.below hb3
    replace Zr := Zr.below hb3
    have lbX := bX.lt
    by_cases hkn : k < gn
    · have kn : (k : Int) < (gn : Int) := by omega
      obtain ⟨XS, hXS⟩ : ∃ z, Hid (List.replicate k ((0 : Int), (-1 : Int)) = z) := ⟨_, Lib.hid rfl⟩
      rw [hXS.out] at rX
      have hXl : XS.length = k := by rw [← hXS.out, List.length_replicate]
      have wk : IntKind.i64.wrap ((k : Int) + 1) = (k : Int) + 1 := IntWalk.i64_in _ (by omega)
      have cb := bX.cell
      clear HIV
      gi_wp2_with (gi_at_builtin; refine wpListIn_append_own _ rfl _ _ 37 rfl (tb + 1) 55 i0 (.agg #[.int .i64 0, .int .i64 0]) 2 16 Try.underlying37 HI.out HZ0.out HZ1.out HZ2.out rfl (by decide) (.slice C k cm) k (rowsV nvV XS) rfl (own_belowG rX ((Below.refl _ _).alloc (Nat.le_refl _) _) (Nat.le_refl _)) ⟨wr.heap.size, 0, none⟩ 1 1 [.int .i64 0, .int .i64 (-1)] rfl rfl (fun j v hj => by rw [addNR, Nat.zero_add]; exact (BlkF.made (B := 0) wr [.int .i64 0, .int .i64 (-1)] 55 (Nat.zero_le _)).at' j v hj) (by intro v hv; simp at hv; rcases hv with rfl | rfl <;> rfl) (by unfold maxLen; omega) (by omega) (by simp; omega) ?_)
      intro rv X0 hown hgrow hblk
      have hbT : Below wr.heap.size wr (wr.alloc (.cells #[.int .i64 0, .int .i64 (-1)] 55)) := (Below.refl _ _).alloc (Nat.le_refl _) _
      obtain ⟨k1, k2, k3, k4, k5, k6⟩ := box_append (W := wr.alloc (.cells #[.int .i64 0, .int .i64 (-1)] 55)) (bX.below' hbT) (by decide) (own_belowG rX hbT (Nat.le_refl _)) (by simp; omega) (by omega) hown hgrow
      have hxs : Hid (List.replicate (k + 1) ((0 : Int), (-1 : Int)) = XS ++ [(0, -1)]) := Lib.hid (by rw [← hXS.out, List.replicate_succ'])
      obtain ⟨A5, c5, hrv, hz1, hz2, hz3, hz4, hz5⟩ := SlRows_own (f := nvV) (n := 2) (L := XS ++ [((0 : Int), (-1 : Int))]) (fun _ => rfl) (by rw [rowsV_appG, List.length_append, hXl]; exact hown)
      clear hz1 hz2 hz3 hz4 hz5
      rw [show (XS ++ [((0 : Int), (-1 : Int))]).length = k + 1 by simp [hXl]] at hrv
      subst hrv
      have HI2 : Hid (RvI (tb + 1) tb x3 (k + 1) A5 c5 (X0.setCell ⟨tb, 0, none⟩ (.slice A5 (k + 1) c5))) := Lib.hid (by
        have hsX := hgrow.size
        unfold RvI
        refine ⟨k2, by rw [hxs.out, rowsV_appG]; exact k3, (hbl.trans (hbT.mono (by omega))).trans k5, by first | (simp at hsX ⊢; omega) | (simp at hsX; simp; omega) | (simp at hsX; show tb + 1 ≤ (X0.setCell _ _).heap.size; rw [World.heap_size_setCell]; omega)⟩)
      have c0 := k1.cell
      have cf := k1.frozen
      clear k1 k2 k3 k4 k5 k6 hown hgrow hbT hblk bX rX cb hXS hxs hXl hbl hb3 hNX0
      gi_upto_region 9 with (fail)
      refine ex_world (fun X => RvI (tb + 1) tb x3 (k + 1) A5 c5 X) HI2.out (fun X9 hX9 => ?_)
      have HI3 := Lib.hid hX9
      clear HI2 c0 cf hX9 lbX Zf Zr
      gi_wp2
      go_roundw
      case rel => exact ⟨k + 1, A5, c5, by omega, by go_num, HI3⟩
      case measure => simp [intOf]; omega
    · have kn : ¬ (k : Int) < (gn : Int) := by omega
      obtain rfl : gn = k := by omega
      obtain ⟨mb, zs, rfl, hmb, BM⟩ := own_box rX g0
      have Zt : BlkF wr w.heap.size tb [.slice (some ⟨mb, 0, none⟩) gn cm] := BoxN.blk (t := 37) bX (by omega)
      have hBw : Below w.heap.size w wr := hBu.trans (hb3.mono hBu.size)
      have HPw : Hid (SlRows ptV 2 wr a4 (ptL D (dn + 1))) := Lib.hid (HPx.out.below hb3)
      have hPb : Hid (∀ b ∈ bsO a4 (ptL D (dn + 1)), b < tb) := Lib.hid fun b hb => by have := bsO_lt HPx.out b hb; have := htbH.out; omega
      have hlm : mb < wr.heap.size := BM.lt
      obtain ⟨f0, f1, f2, f3, f4, f5⟩ := b6 Zf
      obtain ⟨r0, r1, r2, r3, r4, r5, r6, r7, r8⟩ := b9 Zr
      have lf := Zf.lt
      have lr := Zr.lt
      have hwt : w.heap.size < tb := by omega
      clear HIV bX rX
      gi_wp2_with fail
      refine ⟨trivial, (callsIn_wide.2 (needs_iR nm s A B a4 gn gc dn dc c4 (secT D dn) r AT tn tc 0 _)).mono ?_⟩
      rintro e W0 ⟨rfl, hW0⟩
      have hc0 : Below wr.heap.size wr W0 := by rw [← hW0]; exact (((Below.refl _ _).alloc (Nat.le_refl _) _).alloc (by simp) _).alloc (by simp <;> omega) _
      have ZF : BlkF W0 0 wr.heap.size [.string nm, .int .i64 s, .slice A gn gc, .slice B dn dc, .slice a4 (dn + 1) c4, .int .i64 (secT D dn)] := by rw [← hW0]; exact (BlkF.made (B := 0) wr [.string nm, .int .i64 s, .slice A gn gc, .slice B dn dc, .slice a4 (dn + 1) c4, .int .i64 (secT D dn)] 67 (Nat.zero_le _)).below (((Below.refl _ _).alloc (Nat.le_refl _) _).alloc (by simp) _)
      have ZR : BlkF W0 0 (wr.heap.size + 1) [.slice AT tn tc, .int .i64 r.a, .int .i64 r.b, .int .i64 r.nc, .int .i64 r.dn, .int .i64 r.br, .int .i64 r.em, .int .i64 r.pa, .int .i64 r.sc] := by
        rw [← hW0]
        have h := (BlkF.made (B := 0) (wr.alloc (.cells #[.string nm, .int .i64 s, .slice A gn gc, .slice B dn dc, .slice a4 (dn + 1) c4, .int .i64 (secT D dn)] 67)) [.slice AT tn tc, .int .i64 r.a, .int .i64 r.b, .int .i64 r.nc, .int .i64 r.dn, .int .i64 r.br, .int .i64 r.em, .int .i64 r.pa, .int .i64 r.sc] 30 (Nat.zero_le _)).below ((Below.refl _ _).alloc (Nat.le_refl _) (.cells #[.int .i64 0] 3))
        simpa using h
      have ZS : BlkF W0 0 (wr.heap.size + 1 + 1) [.int .i64 0] := by
        rw [← hW0]
        have h := BlkF.made (B := 0) ((wr.alloc (.cells #[.string nm, .int .i64 s, .slice A gn gc, .slice B dn dc, .slice a4 (dn + 1) c4, .int .i64 (secT D dn)] 67)).alloc (.cells #[.slice AT tn tc, .int .i64 r.a, .int .i64 r.b, .int .i64 r.nc, .int .i64 r.dn, .int .i64 r.br, .int .i64 r.em, .int .i64 r.pa, .int .i64 r.sc] 30)) [.int .i64 0] 3 (Nat.zero_le _)
        simpa using h
      have hsz : W0.heap.size = wr.heap.size + 3 := by rw [← hW0]; simp
      clear hW0 f0 f1 f2 f3 f4 f5 r0 r1 r2 r3 r4 r5 r6 r7 r8
      have hBW := hBw.trans (hc0.mono hBw.size)
      replace Zt := Zt.below hc0
      replace BM := BM.below hc0
      obtain ⟨bs, hbs0⟩ : ∃ bs, bs = wr.heap.size :: (bsO A G ++ bsO B D ++ bsO a4 (ptL D (dn + 1))) := ⟨_, rfl⟩
      have hM : FolM bs wr.heap.size nm s G D A B a4 gn gc dn dc c4 (secT D dn) W0 := by
        obtain ⟨e0, e1, e2, e3, e4, e5⟩ := b6 ZF
        exact ⟨by rw [hbs0]; simp, ZF.lt, e0, e1, e2, e3, e4, e5, slk_of (hG.out.below hBW) (fun b hb => by rw [hbs0]; simp [hb]), slk_of (hD.out.below hBW) (fun b hb => by rw [hbs0]; simp [hb]), slk_of (HPw.out.below hc0) (fun b hb => by rw [hbs0]; simp [hb])⟩
      have hbs2 : ∀ b ∈ bs, b < W0.heap.size ∧ b ≠ mb := by
        intro b hb
        rw [hbs0] at hb
        simp only [List.mem_cons, List.mem_append] at hb
        have hw := hBW.size
        rcases hb with rfl | (hb | hb) | hb
        · omega
        · have := bsO_lt hG.out b hb; omega
        · have := bsO_lt hD.out b hb; omega
        · have := hPb.out b hb; omega
      have hbsc : ∀ b ∈ bs, b ∉ ([mb] : List Nat) ∧ ∃ o, W0.heap[b]? = some o ∧ o.isCells = true := by
        intro b hb
        refine ⟨by simpa using (hbs2 b hb).2, ?_⟩
        rw [hbs0] at hb
        simp only [List.mem_cons, List.mem_append] at hb
        rcases hb with rfl | (hb | hb) | hb
        · exact cells_of hM.c0
        · exact bsO_cells gaV_len (hG.out.below hBW) b hb
        · exact bsO_cells leV_len (hD.out.below hBW) b hb
        · exact bsO_cells ptV_len (HPw.out.below hc0) b hb
      obtain ⟨N, hN⟩ : ∃ N, W0.heap.size = N := ⟨_, rfl⟩
      have ltt := Zt.lt
      have lmm := BM.lt
      have hmbN : mb < N := by omega
      have hwm : w.heap.size ≤ mb := by omega
      have hsN2 : Hid (wr.heap.size + 3 = N) := Lib.hid (by omega)
      have hrx : wr.heap.size + 1 ∉ ([mb] : List Nat) := by simp; omega
      have hrep : rvG rvS gF vF sF gn 0 = List.replicate gn (0, -1) := rfl
      rw [← hrep] at BM
      have ltm : tb ≠ mb := by omega
      clear hsz hrep
      gi_wp2
      refine wpIn_rangeFunc_pos (Kt := KeepX [mb]) (K2 := KeepX [mb]) (by decide) (gf := 53) (lb := #[.pointer (some ⟨wr.heap.size + 1 + 1, 0, none⟩), .pointer (some ⟨wr.heap.size, 0, none⟩), .pointer (some ⟨wr.heap.size + 1, 0, none⟩)]) rfl (enters_of Try.func53 (by kernel_rfl) rfl)
        (needs_posF (12 - 1) (by decide) bs wr.heap.size (wr.heap.size + 1 + 1) (wr.heap.size + 1) nm s G D A B a4 gn gc dn dc c4 (secT D dn) T r AT tn tc 0 [mb] W0 gF vF sF hF hgn hdn hok hru hshort hM (fun b hb => (hbs2 b hb).1) hbsc (fun b hb => by simp at hb; subst hb; exact lmm) hrx ZS ZR (Int.le_refl 0) ht9 hS9) KeepX.trans (fun W l o o' _ h hc _ => keepX_put W l o o' h hc) (Below.refl _ _) (fun _ => rfl)
        (fun k X => BoxN X mb 55 (rowsV nvV (rvG rvS gF vF sF gn k) ++ zs) ∧ BlkF X w.heap.size tb [.slice (some ⟨mb, 0, none⟩) gn cm] ∧ Below w.heap.size w X ∧ N ≤ X.heap.size)
        (fun c k X => False)
        (fun k X Y row hs hg hr => ⟨(Own.from (boxN_own mb 55 (fun (k : Nat) => rowsV nvV (rvG rvS gF vF sF gn k) ++ zs)) _) k X Y row hs.1 hg hr, blk_own (β := Unit) (by simp) () X Y row hs.2.1 hg hr, ownFrom_below (β := Unit) (Nat.le_refl _) (by have := hBW.size; omega) () X Y row hs.2.2.1 hg hr, Nat.le_trans hs.2.2.2 hg.size⟩)
        (fun c k X Y row hs hg hr => hs.elim)
        (fun k X Y hs hb => ⟨(hb.block mb (by omega)).trans hs.1, hs.2.1.low hb ltt, hs.2.2.1.trans (hb.mono hBW.size), Nat.le_trans hs.2.2.2 hb.size⟩)
        (fun k X Y h _ => h)
        ⟨BM, Zt, hBW, by omega⟩
        (fun k a' X => ∃ Bx t0 t1 t2 t3 t4 t5 t6 t7 t11 t12 t13 t14 t15 t16 t17 t18 t19 t20 t21 t22 t23 t24 t25 t26 t27 t28 t29 t30 t31 t32 t33 t34 t35 t36 t37 t38 t39 t40 t41 t42 t43 t44 t45 t46 t47 t48 t49 t50 t51 t52 t53 t54, N ≤ Bx ∧ BlkF X N Bx [.int .i64 (vF k), .int .i64 (sF k)] ∧ a' = { tmps := #[t0, t1, t2, t3, t4, t5, t6, t7, .pointer (some ⟨tb, 0, none⟩), .int .i64 (gF k : Int), .pointer (some ⟨Bx, 0, none⟩), t11, t12, t13, t14, t15, t16, t17, t18, t19, t20, t21, t22, t23, t24, t25, t26, t27, t28, t29, t30, t31, t32, t33, t34, t35, t36, t37, t38, t39, t40, t41, t42, t43, t44, t45, t46, t47, t48, t49, t50, t51, t52, t53, t54], defers := [] })
        (fun k a' _ X Y row hs hg hr => by obtain ⟨Bx, t0, t1, t2, t3, t4, t5, t6, t7, t11, t12, t13, t14, t15, t16, t17, t18, t19, t20, t21, t22, t23, t24, t25, t26, t27, t28, t29, t30, t31, t32, t33, t34, t35, t36, t37, t38, t39, t40, t41, t42, t43, t44, t45, t46, t47, t48, t49, t50, t51, t52, t53, t54, h1, h2, h3⟩ := hs; exact ⟨Bx, t0, t1, t2, t3, t4, t5, t6, t7, t11, t12, t13, t14, t15, t16, t17, t18, t19, t20, t21, t22, t23, t24, t25, t26, t27, t28, t29, t30, t31, t32, t33, t34, t35, t36, t37, t38, t39, t40, t41, t42, t43, t44, t45, t46, t47, t48, t49, t50, t51, t52, t53, t54, h1, blk_own (β := Unit) (by simp) () X Y row h2 hg hr, h3⟩)
        ?assign ?body ?done ?stop
      case assign =>
        rintro l2 k X K hk hi hK
        have hNX : N ≤ X.heap.size := hi.2.2.2
        gi_wp2
        have hb9 : Below X.heap.size X (X.alloc (.cells #[.int .i64 (vF k), .int .i64 (sF k)] 55)) := (Below.refl _ _).alloc (Nat.le_refl _) _
        refine hK _ _ (keepsFrom_below _ hb9) (keepX_of_below hb9) ?_ ⟨X.heap.size, _, _, _, _, _, _, _, _, _, _, _, _, _, _, _, _, _, _, _, _, _, _, _, _, _, _, _, _, _, _, _, _, _, _, _, _, _, _, _, _, _, _, _, _, _, _, _, _, _, _, _, _, hNX, BlkF.made (B := N) X [.int .i64 (vF k), .int .i64 (sF k)] 55 hNX, rfl⟩
        exact ⟨hi.1.below hb9, hi.2.1.below hb9, hi.2.2.1.trans (hb9.mono hi.2.2.1.size), Nat.le_trans hNX hb9.size⟩
      case body =>
        rintro l2 k a' X hl hk ⟨BM, Zt, hBX, hNX⟩ ⟨Bx, t0, t1, t2, t3, t4, t5, t6, t7, t11, t12, t13, t14, t15, t16, t17, t18, t19, t20, t21, t22, t23, t24, t25, t26, t27, t28, t29, t30, t31, t32, t33, t34, t35, t36, t37, t38, t39, t40, t41, t42, t43, t44, t45, t46, t47, t48, t49, t50, t51, t52, t53, t54, hBx, HB2, rfl⟩
        obtain ⟨gk, hgk⟩ : ∃ z, gF k = z := ⟨_, rfl⟩
        obtain ⟨v9, hv9⟩ : ∃ z, vF k = z := ⟨_, rfl⟩
        obtain ⟨s9, hs9⟩ : ∃ z, sF k = z := ⟨_, rfl⟩
        have hga := hgL.out k hk
        rw [hgk] at hga
        obtain ⟨l9, hl9⟩ : ∃ z, Hid (rvG rvS gF vF sF gn k = z) := ⟨_, Lib.hid rfl⟩
        have hll : l9.length = gn := by rw [← hl9.out]; exact rvG_len k
        have hgl9 : gk < l9.length := by omega
        obtain ⟨a9, ha9⟩ : ∃ z, Hid ((l9.getD gk (0, -1)).1 = z) := ⟨_, Lib.hid rfl⟩
        obtain ⟨z9, hz9⟩ : ∃ z, Hid ((l9.getD gk (0, -1)).2 = z) := ⟨_, Lib.hid rfl⟩
        have hst : Hid (rvG rvS gF vF sF gn (k + 1) = l9.set gk (rvS (l9.getD gk (0, -1)) v9 s9)) := Lib.hid (by
          show (rvG rvS gF vF sF gn k).set (gF k) _ = _
          rw [hl9.out, hgk, hv9, hs9])
        rw [hl9.out] at BM
        rw [hv9, hs9] at HB2
        have hBF := (BoxN.blk (N := 0) BM (Nat.zero_le _)).at'
        have mm0 : X.cell? ⟨mb, gk * 2, none⟩ = some (.int .i64 a9) := by rw [← ha9.out]; exact hBF _ _ (rowsV_get_nv hgl9 zs)
        have mm1 : X.cell? ⟨mb, gk * 2 + 1, none⟩ = some (.int .i64 z9) := by rw [← hz9.out]; exact hBF _ _ (rowsV_get2_nv hgl9 zs)
        clear hBF
        have q0 : ¬ (gk : Int) < 0 := by omega
        have q1 : (gk : Int) < (gn : Int) := by omega
        obtain ⟨i0, i1⟩ := b2 HB2
        have tt0 := b1 Zt
        have lb := HB2.lt
        have ltb := Zt.lt
        have lmb := BM.lt
        have HS : Hid (∀ y, Below X.heap.size X y → y.cell? ⟨Bx, 0, none⟩ = some (.int .i64 v9) ∧ y.cell? ⟨tb, 0, none⟩ = some (.slice (some ⟨mb, 0, none⟩) gn cm) ∧ y.cell? ⟨mb, gk * 2, none⟩ = some (.int .i64 a9)) := Lib.hid fun y hy => ⟨(hy.cell (p := ⟨Bx, 0, none⟩) lb).trans i0, (hy.cell (p := ⟨tb, 0, none⟩) ltb).trans tt0, (hy.cell (p := ⟨mb, gk * 2, none⟩) lmb).trans mm0⟩
        rw [hgk]
        clear hgk hv9 hs9 hl9
        gi_upto_region 13 with (fail)
        refine wpIn_np ?_
        refine wpIn_round_held (S := (fun w' => w'.cell? ⟨Bx, 0, none⟩ = some (.int .i64 v9) ∧ w'.cell? ⟨tb, 0, none⟩ = some (.slice (some ⟨mb, 0, none⟩) gn cm) ∧ w'.cell? ⟨mb, gk * 2, none⟩ = some (.int .i64 a9))) (by kernel_rfl) (by kernel_rfl) not_letsOut_np (HS.out _ (Below.refl _ _).drew) (fun hHeld => ?_)
        have hT0 : Below X.heap.size X X.drew := (Below.refl _ _).drew
        generalize hdr : X.drew = v0 at *
        clear hdr
        refine tkH 0 ⟨some 42, _, _, _, _, _⟩ ?_ rfl ?_ (by assumption) ?_
        rotate_left
        · (intro w hSw; (try dsimp only at hSw); go_simp; all_goals with_reducible rfl)
        try simp only [Act.put, sA, sB, sC]
        refine tkH 1 ⟨some 43, _, _, _, _, _⟩ ?_ rfl ?_ (by assumption) ?_
        rotate_left
        · (intro w hSw; (try dsimp only at hSw); go_simp; all_goals with_reducible rfl)
        try simp only [Act.put, sA, sB, sC]
        refine tkH 2 ⟨some 44, _, _, _, _, _⟩ ?_ rfl ?_ (by assumption) ?_
        rotate_left
        · (intro w hSw; (try dsimp only at hSw); go_simp; all_goals with_reducible rfl)
        try simp only [Act.put, sA, sB, sC]
        refine tkH 3 ⟨some 45, _, _, _, _, _⟩ ?_ rfl ?_ (by assumption) ?_
        rotate_left
        · (intro w hSw; (try dsimp only at hSw); go_simp; all_goals with_reducible rfl)
        try simp only [Act.put, sA, sB, sC]
        refine tkH 4 ⟨some 46, _, _, _, _, _⟩ ?_ rfl ?_ (by assumption) ?_
        rotate_left
        · (intro w hSw; (try dsimp only at hSw); go_simp; all_goals with_reducible rfl)
        try simp only [Act.put, sA, sB, sC]
        refine tkH 5 ⟨some 47, _, _, _, _, _⟩ ?_ rfl ?_ (by assumption) ?_
        rotate_left
        · (intro w hSw; (try dsimp only at hSw); go_simp; all_goals with_reducible rfl)
        try simp only [Act.put, sA, sB, sC]
        refine tkH 6 ⟨some 48, _, _, _, _, _⟩ ?_ rfl ?_ (by assumption) ?_
        rotate_left
        · (intro w hSw; (try dsimp only at hSw); go_simp; all_goals with_reducible rfl)
        try simp only [Act.put, sA, sB, sC]
        refine tkH 7 ⟨some 49, _, _, _, _, _⟩ ?_ rfl ?_ (by assumption) ?_
        rotate_left
        · (intro w hSw; (try dsimp only at hSw); go_simp; all_goals with_reducible rfl)
        try simp only [Act.put, sA, sB, sC]
        refine wpAnyH_done (by kernel_rfl) ?_ _
        have HB9 := Lib.hid hT0
        clear hHeld HS hT0
        replace Zt := Zt.below HB9.out
        replace BM := BM.below HB9.out
        have FK : KeepsFrom N X v0 := keepsFrom_below _ HB9.out
        have FX : KeepX [mb] X v0 := keepX_of_below HB9.out
        have hBY := hBX.trans (HB9.out.mono hBX.size)
        have hNY : N ≤ v0.heap.size := Nat.le_trans hNX HB9.out.size
        have j0 := (HB9.out.cell (p := ⟨Bx, 0, none⟩) lb).trans i0
        have j1 := (HB9.out.cell (p := ⟨Bx, 1, none⟩) lb).trans i1
        have t0 := b1 Zt
        clear i0 i1 HB9 HB2 hBX tt0 mm0
        by_cases hlt : a9 < v9
        · have hst2 : Hid (rvG rvS gF vF sF gn (k + 1) = l9.set gk (v9, s9)) := Lib.hid (by rw [hst.out]; unfold rvS; rw [ha9.out, if_pos hlt])
          have m0 := (BoxN.blk (N := 0) BM (Nat.zero_le _)).at' (gk * 2) _ (rowsV_get_nv hgl9 zs)
          have m1 := (BoxN.blk (N := 0) BM (Nat.zero_le _)).at' (gk * 2 + 1) _ (rowsV_get2_nv hgl9 zs)
          have mf := (BoxN.blk (N := 0) BM (Nat.zero_le _)).fz
          clear hst mm1 hll
          gi_wp2
          have BM2 : BoxN ((v0.setCell ⟨mb, gk * 2, none⟩ (.int .i64 v9)).setCell ⟨mb, gk * 2 + 1, none⟩ (.int .i64 s9)) mb 55 (rowsV nvV (l9.set gk (v9, s9)) ++ zs) := by
            have h := (BM.set (gk * 2) (.int .i64 v9)).set (gk * 2 + 1) (.int .i64 s9)
            rwa [rows_set_nv v9 s9 zs l9 gk hgl9] at h
          have Zt2 : BlkF ((v0.setCell ⟨mb, gk * 2, none⟩ (.int .i64 v9)).setCell ⟨mb, gk * 2 + 1, none⟩ (.int .i64 s9)) w.heap.size tb [.slice (some ⟨mb, 0, none⟩) gn cm] := Zt.other (c := mb) (i := gk * 2) (l := [.int .i64 v9, .int .i64 s9]) ltm
          have hB4 : Below w.heap.size w ((v0.setCell ⟨mb, gk * 2, none⟩ (.int .i64 v9)).setCell ⟨mb, gk * 2 + 1, none⟩ (.int .i64 s9)) := (hBY.setCell (p := ⟨mb, gk * 2, none⟩) hwm _).setCell (p := ⟨mb, gk * 2 + 1, none⟩) hwm _
          have FZ : KeepsFrom N X ((v0.setCell ⟨mb, gk * 2, none⟩ (.int .i64 v9)).setCell ⟨mb, gk * 2 + 1, none⟩ (.int .i64 s9)) := (FK.trans ((KeepsOthers.setCell _ _ _).from _)).trans ((KeepsOthers.setCell _ _ _).from _)
          have FX2 : KeepX [mb] X ((v0.setCell ⟨mb, gk * 2, none⟩ (.int .i64 v9)).setCell ⟨mb, gk * 2 + 1, none⟩ (.int .i64 s9)) := (FX.trans (keepX_set _ mb (gk * 2) _ (by simp))).trans (keepX_set _ mb (gk * 2 + 1) _ (by simp))
          exact ⟨by first | exact FZ | (rw [hN]; exact FZ), FX2, by rw [hst2.out]; exact BM2, Zt2, hB4, by simpa using hNY⟩
        · have hst2 : Hid (rvG rvS gF vF sF gn (k + 1) = l9) := Lib.hid (by rw [hst.out]; unfold rvS; rw [ha9.out, if_neg hlt, set_same hgl9])
          have hlt2 : ¬ a9 < v9 := hlt
          clear hst hlt mm1 hll
          gi_wp2
          exact ⟨by first | exact FK | (rw [hN]; exact FK), FX, by rw [hst2.out]; exact BM, Zt, hBY, hNY⟩
      case done =>
        rintro Dq X hDq ⟨BM, Zt, hBX, _⟩ hK
        rw [hNN.out] at BM
        have s0 := b1 Zt
        have ltb := Zt.lt
        have hmD : mb ≠ Dq := by omega
        have hS5 : SlRows nvV 2 (X.putObj Dq (.deferred none)) (some ⟨mb, 0, none⟩) (rvG rvS gF vF sF gn NN) := box_sl ((World.putObj_heap_other hmD).trans BM)
        gi_wp2
        refine ⟨by simp, .inl ⟨_, _, rfl, run_takeDeferred hK, ?_⟩⟩
        refine ⟨_, results_tmp2 rfl _ _ _, ?_⟩
        have hBZ : Below w.heap.size w (X.putObj Dq (.deferred none)) := hBX.trans (belowK_b (w := w) (Nat.le_refl _) X Dq _ _ (by have := hBW.size; omega) hK rfl rfl)
        first | exact Or.inr ⟨rfl, mb, cm, rfl, hS5, hwm, hBZ⟩ | exact ⟨mb, cm, rfl, hS5, hwm, hBZ⟩ | exact ⟨mb, ⟨cm, rfl⟩, hS5, hwm, hBZ⟩ | exact ⟨mb, rfl, hS5, hwm, hBZ⟩
      case stop =>
        rintro Dq c k X hDq hk hs hK
        exact hs.elim
end Go.Proofs.Ytgidmmmdpmophaa
