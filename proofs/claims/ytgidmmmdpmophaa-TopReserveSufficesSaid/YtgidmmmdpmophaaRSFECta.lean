import Derived.Test.YtgidmmmdpmophaaRSFECons
import Derived.Test.YtgidmmmdpmophaaRSFELgp
import Derived.Test.YtgidmmmdpmophaaRSFEFx
import Derived.Outline
namespace Go.Proofs.Ytgidmmmdpmophaa
open Go.Shelf Go.ChangeShapes Go.WideShapes Go.ChangeAt Go.RowKit
set_option linter.unusedVariables false
set_option linter.unusedSimpArgs false
attribute [local go_sem ↓] Go.wp_at_zero Go.wp_at_succ
attribute [local go_sem] Oper.semAt_some
/-- What a leg breathes up to a second of its plan. -/
def binS (y : Pl) (b t : Int) : Int := if t ≤ y.bs then 0 else binV y b (min y.s (t - y.bs))
def ctStep (b t : Int) (y : Pl) (l : List Int) : List Int := l.set y.g.toNat (l.getD y.g.toNat 0 + binS y b t)
/-- The amounts up to a second, behind some legs. -/
def conT (b t : Int) (f : Nat → Pl) (n : Nat) (pre : List Nat) : List Int := pre.foldl (fun l k => ctStep b t (f k) l) (List.replicate n 0)
theorem conT_snoc (b t : Int) (f : Nat → Pl) (n : Nat) (pre : List Nat) (x : Nat) : conT b t f n (pre ++ [x]) = ctStep b t (f x) (conT b t f n pre) := by simp [conT]
theorem conT_congr {b t : Int} {f g : Nat → Pl} {n : Nat} {pre : List Nat} (h : ∀ k ∈ pre, f k = g k) : conT b t f n pre = conT b t g n pre := foldl_congr' fun l k hk => by rw [h k hk]
theorem conT_range {b t s : Int} {G : List Ga} {D : List Le} {n k : Nat} (hk : k ≤ D.length) : conT b t (legC s G D) n (List.range k) = conT b t (legK s G D) n (List.range k) := conT_congr fun j hj => by rw [legC_is (by have := List.mem_range.1 hj; omega)]
theorem upE_le {n d K : Int} (d0 : 0 < d) (h : n ≤ d * K) : upE n d ≤ K := by
  have h2 : (d * K + (d - 1)) / d = K := by
    rw [Int.add_comm, Int.add_mul_ediv_left _ _ (by omega), Int.ediv_eq_zero_of_lt (by omega) (by omega)]; omega
  exact Int.le_trans (Int.ediv_le_ediv d0 (by omega)) (Int.le_of_eq h2)
theorem upE_ge0 {n d : Int} (n0 : 0 ≤ n) (d0 : 0 < d) : 0 ≤ upE n d := Int.ediv_nonneg (by omega) (by omega)
theorem binS_bd {y : Pl} {b t : Int} (h : PlOk y) (b0 : 1 ≤ b) (b1 : b ≤ 100000) (s1 : y.s ≤ 20000) (t0 : 0 ≤ t) : 0 ≤ binS y b t ∧ binS y b t ≤ 124400000000000 := by
  unfold binS
  by_cases e : t ≤ y.bs
  · rw [if_pos e]; omega
  rw [if_neg e]
  have hs := h.s
  obtain ⟨q, hq⟩ : ∃ q, min y.s (t - y.bs) = q := ⟨_, rfl⟩
  rw [hq]
  have B := bin_bd h b0 b1 (q := q) (by omega) (by omega) s1
  obtain ⟨_, _, _, _, _, x0, x1, x2, _⟩ := B
  unfold binV
  refine ⟨upE_ge0 x2 (by omega), upE_le (by omega) ?_⟩
  have m := mul_bd x0 x1 (show 0 ≤ q by omega) (show q ≤ 20000 by omega)
  refine Int.le_trans m.2 ?_
  have e1 : 100000 * (62200 * y.s) * 20000 = 124400000000000 * y.s := by omega
  have e2 : 120000 * y.s * 124400000000000 = 14928000000000000000 * y.s := by omega
  rw [e1, e2]
  omega
theorem conT_snocL (b t : Int) (f : Nat → Pl) (n : Nat) : ∀ (m : Nat) (pre : List Nat), pre.length = m → (conT b t f n pre).length = n ∧ ((∀ k, PlOk (f k)) → (∀ k, (f k).s ≤ 20000) → 1 ≤ b → b ≤ 100000 → 0 ≤ t → ∀ g, 0 ≤ (conT b t f n pre).getD g 0 ∧ (conT b t f n pre).getD g 0 ≤ m * 124400000000000)
  | 0, pre, h => by
    obtain rfl := List.eq_nil_of_length_eq_zero h
    refine ⟨by simp [conT], fun _ _ _ _ _ g => ?_⟩
    have : (conT b t f n []).getD g 0 = 0 := by
      unfold conT
      simp only [List.foldl_nil, List.getD_eq_getElem?_getD, List.getElem?_replicate]
      split <;> rfl
    rw [this]; omega
  | m + 1, pre, h => by
    obtain ⟨q, x, rfl⟩ : ∃ q x, pre = q ++ [x] := by
      have hne : pre ≠ [] := by intro e; rw [e] at h; simp at h
      exact ⟨pre.dropLast, pre.getLast hne, (List.dropLast_concat_getLast hne).symm⟩
    have hq : q.length = m := by simpa using h
    obtain ⟨h1, h2⟩ := conT_snocL b t f n m q hq
    rw [conT_snoc]
    refine ⟨by simp [ctStep, h1], fun hf hs b0 b1 t0 g => ?_⟩
    have hb := binS_bd (hf x) b0 b1 (hs x) t0
    have hg := h2 hf hs b0 b1 t0 g
    have hx := h2 hf hs b0 b1 t0 (f x).g.toNat
    unfold ctStep
    rw [List.getD_eq_getElem?_getD, List.getElem?_set]
    by_cases e : (f x).g.toNat = g
    · rw [if_pos e]
      by_cases e2 : (f x).g.toNat < (conT b t f n q).length
      · rw [if_pos e2]
        simp only [Option.getD_some]
        omega
      · rw [if_neg e2]
        simp only [Option.getD_none]
        omega
    · rw [if_neg e, ← List.getD_eq_getElem?_getD]
      omega
theorem sec_mono {nm : ByteArray} {s : Int} {G : List Ga} {D : List Le} (h : PlnOk nm s G D) : ∀ {j k : Nat}, j ≤ k → k ≤ D.length → secT D j ≤ secT D k
  | j, 0, hj, _ => by obtain rfl : j = 0 := by omega
                      exact Int.le_refl _
  | j, k + 1, hj, hk => by
    by_cases e : j = k + 1
    · rw [e]; exact Int.le_refl _
    · have ih := sec_mono h (j := j) (k := k) (by omega) (by omega)
      have h1 := (h.le _ (List.getElem_mem (show k < D.length by omega))).1
      rw [secT_succ (show k < D.length by omega)]
      omega
theorem leg_short {nm : ByteArray} {s : Int} {G : List Ga} {D : List Le} (h : PlnOk nm s G D) (hS : secT D D.length ≤ 20000) (k : Nat) : (legC s G D k).s ≤ 20000 := by
  unfold legC
  by_cases hk : k < D.length
  · rw [if_pos hk]
    have h1 := sec_mono h (show k + 1 ≤ D.length by omega) (Nat.le_refl _)
    rw [secT_succ hk] at h1
    have h2 := (h.sec k).1
    show (D.getD k default).s ≤ 20000
    rw [getD_leE hk]
    omega
  · rw [if_neg hk]; decide
/-- Legs that begin later add nothing. -/
theorem conT_cut {nm : ByteArray} {s : Int} {G : List Ga} {D : List Le} {b t : Int} {n dn : Nat} (h : PlnOk nm s G D) (hdn : Hid (dn = D.length)) (hgn : Hid (n = G.length)) {k : Nat} (hk : k ≤ dn) (ht : t ≤ (legK s G D k).bs) : conT b t (legK s G D) n (List.range dn) = conT b t (legK s G D) n (List.range k) := by
  obtain ⟨m, rfl⟩ : ∃ m, dn = k + m := ⟨dn - k, by omega⟩
  have : ∀ m, k + m ≤ D.length → conT b t (legK s G D) n (List.range (k + m)) = conT b t (legK s G D) n (List.range k) := by
    intro m
    induction m with
    | zero => intro _; rfl
    | succ m ih =>
      intro hm
      rw [show k + (m + 1) = (k + m) + 1 by omega, List.range_succ, conT_snoc, ih (by omega)]
      have hb : t ≤ (legK s G D (k + m)).bs := by
        refine Int.le_trans ht ?_
        show secT D k ≤ secT D (k + m)
        exact sec_mono h (by omega) (by omega)
      unfold ctStep binS
      rw [if_pos hb, Int.add_zero]
      have hlen := (conT_snocL b t (legK s G D) n k (List.range k) (by simp)).1
      by_cases hg : (legK s G D (k + m)).g.toNat < (conT b t (legK s G D) n (List.range k)).length
      · refine List.ext_getElem (by simp) fun i h1 h2 => ?_
        rw [List.getElem_set]
        split
        · rename_i e; subst e; rw [List.getD_eq_getElem?_getD, List.getElem?_eq_getElem hg]; rfl
        · rfl
      · exact List.set_eq_of_length_le (by omega)
  exact this m (by have := hdn.out; omega)
theorem checkTrace_x (a0 : ByteArray) (a1 : Int) (a2 : Option Addr) (n2 c2 : Nat) (a3 : Option Addr) (n3 c3 : Nat) (a4 : Option Addr) (n4 c4 : Nat) (a5 E : Int) (w : World) (h : Hid ((if 20000 < a5 then 8 else 0) = E)) :
    Calls Try.prog 29 #[.agg #[.string a0, .int .i64 a1, .slice a2 n2 c2, .slice a3 n3 c3, .slice a4 n4 c4, .int .i64 a5]] w fun e w' => e = .returned (.int .i64 E) ∧ Below w.heap.size w w' := by
  by_cases hc : 20000 < a5
  · have hE : Hid (E = 8) := Lib.hid (by rw [← h.out, if_pos hc])
    clear h
    go_enter Try.func29, Try.ntmps29
    go_wp2
    go_ret
    exact ⟨ret_int hE.out.symm, (by (repeat (first | (with_reducible refine Below.drew ?_) | (with_reducible refine below_drewN ?_ _) | (with_reducible refine Below.alloc ?_ (by first | omega | (simp; done) | (simp; omega) | (simp at *; omega)) _) | (with_reducible refine Below.setCell ?_ (by first | omega | (simp; done) | (simp; omega) | (simp at *; omega)) _) | (with_reducible exact Below.refl _ _) | (with_reducible assumption) | (with_reducible refine Below.trans ?_ (Below.mono (by assumption) (by first | omega | (simp; done) | (simp; omega) | (simp at *; omega)))))))⟩
  · have hE : Hid (E = 0) := Lib.hid (by rw [← h.out, if_neg hc])
    clear h
    go_enter Try.func29, Try.ntmps29
    go_wp2
    go_ret
    exact ⟨ret_int hE.out.symm, (by (repeat (first | (with_reducible refine Below.drew ?_) | (with_reducible refine below_drewN ?_ _) | (with_reducible refine Below.alloc ?_ (by first | omega | (simp; done) | (simp; omega) | (simp at *; omega)) _) | (with_reducible refine Below.setCell ?_ (by first | omega | (simp; done) | (simp; omega) | (simp at *; omega)) _) | (with_reducible exact Below.refl _ _) | (with_reducible assumption) | (with_reducible refine Below.trans ?_ (Below.mono (by assumption) (by first | omega | (simp; done) | (simp; omega) | (simp at *; omega)))))))⟩
theorem checkSecond_x (a0 : ByteArray) (a1 : Int) (a2 : Option Addr) (n2 c2 : Nat) (a3 : Option Addr) (n3 c3 : Nat) (a4 : Option Addr) (n4 c4 : Nat) (a5 t E : Int) (w : World) (h : Hid (rngE t 0 a5 = E)) :
    Calls Try.prog 38 #[.agg #[.string a0, .int .i64 a1, .slice a2 n2 c2, .slice a3 n3 c3, .slice a4 n4 c4, .int .i64 a5], .int .i64 t] w fun e w' => e = .returned (.int .i64 E) ∧ Below w.heap.size w w' := by
  go_enter Try.func38, Try.ntmps38
  go_wp2_with fail
  refine (cRange_is t 0 a5 E _ h).mono ?_
  rintro e w' ⟨rfl, rfl⟩
  go_wp2
  go_ret
  exact ⟨rfl, (by (repeat (first | (with_reducible refine Below.drew ?_) | (with_reducible refine below_drewN ?_ _) | (with_reducible refine Below.alloc ?_ (by first | omega | (simp; done) | (simp; omega) | (simp at *; omega)) _) | (with_reducible refine Below.setCell ?_ (by first | omega | (simp; done) | (simp; omega) | (simp at *; omega)) _) | (with_reducible exact Below.refl _ _) | (with_reducible assumption) | (with_reducible refine Below.trans ?_ (Below.mono (by assumption) (by first | omega | (simp; done) | (simp; omega) | (simp at *; omega)))))))⟩
theorem cFirst4X (x y z v E : Int) (b : Nat) (w : World) {B : Nat} (hE : Hid (firE [x, y, z, v] = E)) (h : BlkF w B b [.int .i64 x, .int .i64 y, .int .i64 z, .int .i64 v]) : Calls Try.prog 27 #[.slice (some ⟨b, 0, none⟩) 4 4] w fun e w' => e = .returned (.int .i64 E) ∧ Below w.heap.size w w' := by
  rw [← hE.out]
  exact cFirstB [x, y, z, v] b 0 4 w rfl (by simp) (by simp) (blk_ints (l := [x, y, z, v]) h)
set_option maxRecDepth 100000 in
set_option maxHeartbeats 8000000 in
theorem ConsumedAt_any (nm : ByteArray) (s : Int) (G : List Ga) (D : List Le) (A B : Option Addr) (gn gc dn dc N0 : Nat) (b t E0 E1 F2 F3 E : Int) (w : World) (hz : nm.size ≤ 9223372036854775807) (hgn : Hid (gn = G.length)) (hgl : gn ≤ 9223372036854775807) (hdn : Hid (dn = D.length)) (hdl : dn ≤ 9223372036854775807) (hG : Hid (SlRows gaV 2 w A G)) (hD : Hid (SlRows leV 3 w B D)) (hE0 : Hid (plnP nm s G D = (N0, E0)))
    (hE1 : Hid (rngE b 1 100000 = E1)) (hF2 : Hid ((if 20000 < secT D dn then 8 else 0) = F2)) (hF3 : Hid (rngE t 0 (secT D dn) = F3)) (hE : Hid (firE [E0, E1, F2, F3] = E)) :
    Calls Try.prog 15 #[.agg #[.string nm, .int .i64 s, .slice A gn gc, .slice B dn dc], .int .i64 b, .int .i64 t] w fun e w' =>
      (¬ E = 0 ∧ e = .returned (.tuple #[.slice none 0 0, .int .i64 E]) ∧ Below w.heap.size w w') ∨
      (E = 0 ∧ ∃ C, e = .returned (.tuple #[.slice (some ⟨C, 0, none⟩) gn gn, .int .i64 0]) ∧ SlRows inV 1 w' (some ⟨C, 0, none⟩) (conT b t (legK s G D) gn (List.range dn)) ∧ w.heap.size ≤ C ∧ Below w.heap.size w w') := by
  refine (callsIn_wide (n := 8)).1 ?_
  refine callsIn_of_wp_marks Try.func15 rfl trivial ?_ rfl
  simp only [Try.ntmps15, List.size_toArray, List.length_cons, List.length_nil, Nat.reduceAdd, Nat.reduceSub, Array.replicate_succ, Array.replicate_zero, List.push_toArray, List.append_toArray, List.nil_append, List.cons_append]
  gi_wp2_with fail
  have Zr := (BlkF.made (B := w.heap.size) (w.alloc (.cells #[.string nm, .int .i64 s, .slice A gn gc, .slice B dn dc] 25)) [.int .i64 b] 3 (by simp)).below (Below.alloc (Below.refl _ ((w.alloc (.cells #[.string nm, .int .i64 s, .slice A gn gc, .slice B dn dc] 25)).alloc (.cells #[.int .i64 b] 3))) (Nat.le_refl _) (.cells #[.int .i64 t] 3))
  have Zs := BlkF.made (B := w.heap.size) ((w.alloc (.cells #[.string nm, .int .i64 s, .slice A gn gc, .slice B dn dc] 25)).alloc (.cells #[.int .i64 b] 3)) [.int .i64 t] 3 (by simp <;> omega)
  simp only [World.size_alloc] at Zr Zs
  have hb0 : Below w.heap.size w (((w.alloc (.cells #[.string nm, .int .i64 s, .slice A gn gc, .slice B dn dc] 25)).alloc (.cells #[.int .i64 b] 3)).alloc (.cells #[.int .i64 t] 3)) := (((Below.refl _ _).alloc (Nat.le_refl _) _).alloc (by simp) _).alloc (by simp <;> omega) _
  refine ⟨trivial, callsIn_world (fun X => Below w.heap.size w X ∧ BlkF X w.heap.size (w.heap.size + 1) [.int .i64 b] ∧ BlkF X w.heap.size (w.heap.size + 1 + 1) [.int .i64 t]) ⟨hb0, Zr, Zs⟩ (fun x0 hx0 => ?_)⟩
  clear Zr Zs hb0
  obtain ⟨hb0, Zr, Zs⟩ := hx0
  refine (callsIn_wide.2 (follow_x nm s G D A B gn gc dn dc N0 E0 x0 hz hgn hgl hdn hdl (Lib.hid (hG.out.below hb0)) (Lib.hid (hD.out.below hb0)) hE0)).mono ?_
  rintro e x1 ⟨a0, a1, a2, n2, c2, a3, n3, c3, a4, n4, c4, a5, rfl, hn3, hn2, hfg, hb1⟩
  have HFG := Lib.hid hfg
  have hB1 := hb0.trans (hb1.mono hb0.size)
  replace Zr := Zr.below hb1
  replace Zs := Zs.below hb1
  obtain ⟨rb, hrb⟩ : ∃ z, w.heap.size + 1 = z := ⟨_, rfl⟩
  obtain ⟨sb, hsb⟩ : ∃ z, rb + 1 = z := ⟨_, rfl⟩
  rw [hrb] at Zr Zs ⊢
  rw [hsb] at Zs ⊢
  obtain ⟨E2, hE2x⟩ : ∃ z : Int, Hid ((if 20000 < a5 then (8 : Int) else 0) = z) := ⟨_, Lib.hid rfl⟩
  obtain ⟨E3, hE3x⟩ : ∃ z, Hid (rngE t 0 a5 = z) := ⟨_, Lib.hid rfl⟩
  have hEX : Hid (firE [E0, E1, E2, E3] = E) := Lib.hid (by
    rw [← hE.out]
    refine fir_x fun h => ?_
    have h5 := (HFG.out h).1.2.2.2.2.2.2.2.2.2
    rw [← hE2x.out, ← hE3x.out, ← hF2.out, ← hF3.out, h5])
  have hE2 : Hid (E0 = 0 → (if 20000 < secT D dn then (8 : Int) else 0) = E2) := Lib.hid (fun h => by rw [← hE2x.out, (HFG.out h).1.2.2.2.2.2.2.2.2.2])
  have hE3 : Hid (E0 = 0 → rngE t 0 (secT D dn) = E3) := Lib.hid (fun h => by rw [← hE3x.out, (HFG.out h).1.2.2.2.2.2.2.2.2.2])
  clear hb1 hb0 hfg
  gi_upto_region 2 with (fail)
  refine ex_world (fun X => Below x1.heap.size x1 X ∧ BlkF X x1.heap.size x1.heap.size [.string a0, .int .i64 a1, .slice a2 n2 c2, .slice a3 n3 c3, .slice a4 n4 c4, .int .i64 a5]) ⟨(Below.refl _ _).alloc (Nat.le_refl _) _, BlkF.made (B := x1.heap.size) x1 [.string a0, .int .i64 a1, .slice a2 n2 c2, .slice a3 n3 c3, .slice a4 n4 c4, .int .i64 a5] 67 (Nat.le_refl _)⟩ (fun u hu => ?_)
  obtain ⟨hbu, Zf⟩ := hu
  have hBu := hB1.trans (hbu.mono hB1.size)
  replace Zr := Zr.below hbu
  replace Zs := Zs.below hbu
  replace HFG := Lib.hid (HFG.out.below hbu)
  obtain ⟨xf, hxf⟩ : ∃ z, x1.heap.size = z := ⟨_, rfl⟩
  rw [hxf] at Zf ⊢
  have lf := Zf.lt
  have lr := Zr.lt
  have ls := Zs.lt
  obtain ⟨f0, f1, f2, f3, f4, f5⟩ := b6 Zf
  have r0 := b1 Zr
  have q0 := b1 Zs
  have HS : Hid (∀ y, Below u.heap.size u y → y.cell? ⟨xf, 0, none⟩ = some (.string a0) ∧ y.cell? ⟨xf, 1, none⟩ = some (.int .i64 a1) ∧ y.cell? ⟨xf, 2, none⟩ = some (.slice a2 n2 c2) ∧ y.cell? ⟨xf, 3, none⟩ = some (.slice a3 n3 c3) ∧ y.cell? ⟨xf, 4, none⟩ = some (.slice a4 n4 c4) ∧ y.cell? ⟨xf, 5, none⟩ = some (.int .i64 a5) ∧ y.cell? ⟨rb, 0, none⟩ = some (.int .i64 b) ∧ y.cell? ⟨sb, 0, none⟩ = some (.int .i64 t)) := Lib.hid fun y hy => ⟨(hy.cell (p := ⟨xf, 0, none⟩) lf).trans f0, (hy.cell (p := ⟨xf, 1, none⟩) lf).trans f1, (hy.cell (p := ⟨xf, 2, none⟩) lf).trans f2, (hy.cell (p := ⟨xf, 3, none⟩) lf).trans f3, (hy.cell (p := ⟨xf, 4, none⟩) lf).trans f4, (hy.cell (p := ⟨xf, 5, none⟩) lf).trans f5, (hy.cell (p := ⟨rb, 0, none⟩) lr).trans r0, (hy.cell (p := ⟨sb, 0, none⟩) ls).trans q0⟩
  clear f0 f1 f2 f3 f4 f5 r0 q0 lf lr ls hB1 hbu hxf
  refine wpIn_np ?_
  refine wpIn_wide.2 ?_
  refine wp_region_held_drew (S := (fun w' => w'.cell? ⟨xf, 0, none⟩ = some (.string a0) ∧ w'.cell? ⟨xf, 1, none⟩ = some (.int .i64 a1) ∧ w'.cell? ⟨xf, 2, none⟩ = some (.slice a2 n2 c2) ∧ w'.cell? ⟨xf, 3, none⟩ = some (.slice a3 n3 c3) ∧ w'.cell? ⟨xf, 4, none⟩ = some (.slice a4 n4 c4) ∧ w'.cell? ⟨xf, 5, none⟩ = some (.int .i64 a5) ∧ w'.cell? ⟨rb, 0, none⟩ = some (.int .i64 b) ∧ w'.cell? ⟨sb, 0, none⟩ = some (.int .i64 t))) (by kernel_rfl) (HS.out _ (Below.refl _ _).drew) (fun hHeld => ?_)
  have hT0 : Below u.heap.size u u.drew := (Below.refl _ _).drew
  generalize hdr : u.drew = v0 at *
  clear hdr
  refine tkH 0 ⟨some 17, _, _, _, _, _⟩ ?_ rfl ?_ (by assumption) ?_
  rotate_left
  · (intro w hSw; (try dsimp only at hSw); go_simp; all_goals with_reducible rfl)
  try simp only [Act.put, sA, sB, sC]
  refine tkH 1 ⟨some 18, _, _, _, _, _⟩ ?_ rfl ?_ (by assumption) ?_
  rotate_left
  · (intro w hSw; (try dsimp only at hSw); go_simp; all_goals with_reducible rfl)
  try simp only [Act.put, sA, sB, sC]
  refine tkH 3 ⟨some 20, _, _, _, _, _⟩ ?_ rfl ?_ (by assumption) ?_
  rotate_left
  · (intro w hSw; (try dsimp only at hSw); go_simp; all_goals with_reducible rfl)
  try simp only [Act.put, sA, sB, sC]
  refine tkH 5 ⟨some 22, _, _, _, _, _⟩ ?_ rfl ?_ (by assumption) ?_
  rotate_left
  · (intro w hSw; (try dsimp only at hSw); go_simp; all_goals with_reducible rfl)
  try simp only [Act.put, sA, sB, sC]
  refine tkH 6 ⟨some 23, _, _, _, _, _⟩ ?_ rfl ?_ (by assumption) ?_
  rotate_left
  · (intro w hSw; (try dsimp only at hSw); go_simp; all_goals with_reducible rfl)
  try simp only [Act.put, sA, sB, sC]
  refine wpAnyH_ready (rs := [2]) (by kernel_rfl) (by simp) ?_
  refine AllReadyH.cons rfl (fun K hK => ?_) (AllReadyH.nil)
  go_simp
  refine (cBreathB b E1 _ hE1).mono ?_
  rintro e v1 ⟨rfl, hbv0⟩
  have hT1 : Below u.heap.size u v1 := hT0.trans (hbv0.mono hT0.size)
  clear hbv0
  go_wp2_with fail
  refine hK.out _ _ (HS.out _ hT1) (fun hHeld => ?_)
  clear hK K
  try simp only [Act.put, sA, sB, sC]
  refine wpAnyH_ready (rs := [4]) (by kernel_rfl) (by simp) ?_
  refine AllReadyH.cons rfl (fun K hK => ?_) (AllReadyH.nil)
  go_simp
  refine (checkTrace_x a0 a1 a2 n2 c2 a3 n3 c3 a4 n4 c4 a5 E2 _ hE2x).mono ?_
  rintro e v2 ⟨rfl, hbv1⟩
  have hT2 : Below u.heap.size u v2 := hT1.trans (hbv1.mono hT1.size)
  clear hbv1
  go_wp2_with fail
  refine hK.out _ _ (HS.out _ hT2) (fun hHeld => ?_)
  clear hK K
  try simp only [Act.put, sA, sB, sC]
  refine wpAnyH_ready (rs := [7]) (by kernel_rfl) (by simp) ?_
  refine AllReadyH.cons rfl (fun K hK => ?_) (AllReadyH.nil)
  go_simp
  refine (checkSecond_x a0 a1 a2 n2 c2 a3 n3 c3 a4 n4 c4 a5 t E3 _ hE3x).mono ?_
  rintro e v3 ⟨rfl, hbv2⟩
  have hT3 : Below u.heap.size u v3 := hT2.trans (hbv2.mono hT2.size)
  clear hbv2
  go_wp2_with fail
  refine hK.out _ _ (HS.out _ hT3) (fun hHeld => ?_)
  clear hK K
  try simp only [Act.put, sA, sB, sC]
  refine wpAnyH_ready (rs := [8]) (by kernel_rfl) (by simp) ?_
  refine AllReadyH.cons rfl (fun K hK => ?_) (AllReadyH.nil)
  go_simp
  go_wp2_with fail
  refine hK.out _ _ (HS.out _ (hT3.alloc hT3.size _)) (fun hHeld => ?_)
  clear hK K
  try simp only [Act.put, sA, sB, sC]
  have HNbz := Lib.hid (BlkF.made (B := u.heap.size) v3 [.int .i64 E0, .int .i64 E1, .int .i64 E2, .int .i64 E3] 38 hT3.size)
  have hbv3 : Below v3.heap.size v3 (v3.alloc (.cells #[.int .i64 E0, .int .i64 E1, .int .i64 E2, .int .i64 E3] 38)) := (Below.refl _ _).alloc (Nat.le_refl _) _
  have hnbz : u.heap.size ≤ v3.heap.size := hT3.size
  have exbz : ∃ x, v3.heap.size = x := ⟨_, rfl⟩
  generalize hq3 : v3.alloc (.cells #[.int .i64 E0, .int .i64 E1, .int .i64 E2, .int .i64 E3] 38) = v4 at *
  have hT4 : Below u.heap.size u v4 := hT3.trans (hbv3.mono hT3.size)
  obtain ⟨bz, ebz⟩ := exbz
  rw [ebz] at HNbz hnbz ⊢
  clear hbv3 hq3
  refine wpAnyH_ready (rs := [9]) (by kernel_rfl) (by simp) ?_
  refine AllReadyH.cons rfl (fun K hK => ?_) (AllReadyH.nil)
  go_simp
  refine (cFirst4X E0 E1 E2 E3 E bz _ hEX HNbz.out).mono ?_
  rintro e v5 ⟨rfl, hbv4⟩
  have hT5 : Below u.heap.size u v5 := hT4.trans (hbv4.mono hT4.size)
  replace HNbz := Lib.hid (HNbz.out.below hbv4)
  clear hbv4
  go_wp2_with fail
  refine hK.out _ _ (HS.out _ hT5) (fun hHeld => ?_)
  clear hK K
  try simp only [Act.put, sA, sB, sC]
  refine tkH 10 ⟨some 9, _, _, _, _, _⟩ ?_ rfl ?_ (by assumption) ?_
  rotate_left
  · (intro w hSw; (try dsimp only at hSw); go_simp; all_goals with_reducible rfl)
  try simp only [Act.put, sA, sB, sC]
  refine wpAnyH_done (by kernel_rfl) ?_ _
  obtain ⟨x3, rfl⟩ : ∃ z, z = v5 := ⟨_, rfl⟩
  have hT := hT5
  clear hHeld HS HNbz
  have hB3 := hBu.trans (hT.mono hBu.size)
  have V6 := Zf.below hT
  have Vr := Zr.below hT
  have Vs := Zs.below hT
  have HF3 := Lib.hid (HFG.out.below hT)
  have hs3 := hB3.size
  clear hT Zf Zr Zs HFG
  by_cases hEE : ¬ E = 0
  · have hE3' : (E != 0) = true := by simpa using hEE
    gi_wp2
    exact ⟨_, results_tmp2 rfl _ _ _, Or.inl ⟨hEE, rfl, hB3⟩⟩
  obtain rfl : E = 0 := by omega
  obtain ⟨rfl, rfl, rfl, rfl⟩ : E0 = 0 ∧ E1 = 0 ∧ E2 = 0 ∧ E3 = 0 := by
    have := firE_all hEX.out
    exact ⟨this _ (by simp), this _ (by simp), this _ (by simp), this _ (by simp)⟩
  obtain ⟨⟨rfl, rfl, rfl, rfl, rfl, rfl, rfl, rfl, rfl, rfl⟩, hP⟩ := HF3.out rfl
  have hok := Lib.hid (pln_ok hE0.out)
  have hbb := rngE_bd hE1.out
  have htt := rngE_bd (hE3.out rfl)
  have hS9 : Hid (secT D n3 ≤ 20000) := Lib.hid (by have h := hE2.out rfl; by_cases e : 20000 < secT D n3; rw [if_pos e] at h; exact absurd h (by decide); omega)
  have ht20 : t ≤ 20000 := by have := hS9.out; omega
  have hshort : Hid (∀ k, (legC a1 G D k).s ≤ 20000) := Lib.hid (fun k => leg_short hok.out (by rw [← hdn.out]; exact hS9.out) k)
  have HP := Lib.hid hP
  have d60 : n3 ≤ 60 := by have := hok.out.d6; have := hdn.out; omega
  have g8 : n2 ≤ 8 := by have := hok.out.g8; have := hgn.out; omega
  have g1 : 1 ≤ n2 := by have := hok.out.g0; have := hgn.out; omega
  obtain ⟨f0, f1, f2, f3, f4, f5⟩ := b6 V6
  have l6 := V6.lt
  clear hP HF3 hE hEX
  have fne : xf ≠ x3.heap.size := by omega
  have fne2 : xf ≠ x3.heap.size + 1 := by omega
  have hmk := fun (w : World) => mkIn8 g1 g8 w
  gi_wp2_with fail
  clear hmk
  refine ⟨trivial, (callsIn_wide.2 (legs_is a0 a1 a2 a3 a4 n2 c2 n3 c3 c4 (secT D n3) _)).mono ?_⟩
  rintro e W0 ⟨rfl, hW0⟩
  obtain ⟨mb, hmb⟩ : ∃ z, x3.heap.size = z := ⟨_, rfl⟩
  obtain ⟨tb, htb⟩ : ∃ z, mb + 1 = z := ⟨_, rfl⟩
  simp only [World.size_alloc, hmb, htb] at hW0 ⊢
  have Bm0 : BoxN W0 mb 3 (List.replicate n2 (.int .i64 0)) := by
    rw [← hW0, ← hmb]
    exact (Below.heap_alloc _ _ _ (by simp <;> omega)).trans ((Below.heap_alloc _ _ _ (by simp <;> omega)).trans (BoxN.new x3 3 _))
  have bS : BoxN W0 tb 49 [.slice (some ⟨mb, 0, none⟩) n2 n2] := by
    rw [← hW0, ← htb, ← hmb]
    have := BoxN.new (x3.alloc (.cells (List.replicate n2 (.int .i64 0)).toArray 3)) 49 [.slice (some ⟨x3.heap.size, 0, none⟩) n2 n2]
    simp only [World.size_alloc] at this
    exact (Below.heap_alloc _ _ _ (by simp)).trans this
  have hsz : W0.heap.size = tb + 2 := by rw [← hW0, ← htb, ← hmb]; simp
  have hbW : Below x3.heap.size x3 W0 := by rw [← hW0]; exact (((Below.refl _ _).alloc (Nat.le_refl _) _).alloc (by simp) _).alloc (by simp; omega) _
  have ZF : BlkF W0 w.heap.size (tb + 1) [.string a0, .int .i64 a1, .slice a2 n2 c2, .slice a3 n3 c3, .slice a4 (n3 + 1) c4, .int .i64 (secT D n3)] := by
    rw [← hW0]
    have := BlkF.made (B := w.heap.size) ((x3.alloc (.cells (List.replicate n2 (.int .i64 0)).toArray 3)).alloc (.cells #[.slice (some ⟨mb, 0, none⟩) n2 n2] 49)) [.string a0, .int .i64 a1, .slice a2 n2 c2, .slice a3 n3 c3, .slice a4 (n3 + 1) c4, .int .i64 (secT D n3)] 67 (by have := hB3.size; simp; omega)
    simpa [htb, hmb] using this
  clear hW0
  have hBW : Below w.heap.size w W0 := hB3.trans (hbW.mono hB3.size)
  have WR := Vr.below hbW
  have WS := Vs.below hbW
  have HPW := Lib.hid (HP.out.below hbW)
  have rl1 : rb < mb := by have := Vr.lt; omega
  have rl2 : sb < mb := by have := Vs.lt; omega
  have plt : ∀ b ∈ bsO a4 (ptL D (n3 + 1)), b < mb := fun b hb => by have := bsO_lt HP.out b hb; omega
  obtain ⟨bs, hbs0⟩ : ∃ bs, bs = (tb + 1) :: (bsO a2 G ++ bsO a3 D ++ bsO a4 (ptL D (n3 + 1))) := ⟨_, rfl⟩
  have hM : FolM bs (tb + 1) a0 a1 G D a2 a3 a4 n2 c2 n3 c3 c4 (secT D n3) W0 := by
    obtain ⟨e0, e1, e2, e3, e4, e5⟩ := b6 ZF
    exact ⟨by rw [hbs0]; simp, ZF.lt, e0, e1, e2, e3, e4, e5, slk_of (hG.out.below hBW) (fun b hb => by rw [hbs0]; simp [hb]), slk_of (hD.out.below hBW) (fun b hb => by rw [hbs0]; simp [hb]), slk_of HPW.out (fun b hb => by rw [hbs0]; simp [hb])⟩
  have hbs : ∀ b ∈ bs, b < W0.heap.size ∧ b ≠ mb := by
    intro b hb
    rw [hbs0] at hb
    simp only [List.mem_cons, List.mem_append] at hb
    rcases hb with rfl | (hb | hb) | hb
    · omega
    · have := bsO_lt hG.out b hb; omega
    · have := bsO_lt hD.out b hb; omega
    · have := plt b hb; omega
  obtain ⟨N, hN⟩ : ∃ N, W0.heap.size = N := ⟨_, rfl⟩
  have hrep : List.replicate n2 (Value.int .i64 0) = (conT b t (legC a1 G D) n2 (List.range 0)).map (fun x => Value.int .i64 x) := by simp [conT]
  clear hbs0 ZF V6 Vr Vs f0 f1 f2 f3 f4 f5 hbW plt l6
  gi_wp2
  refine wpIn_rangeFunc_pos (Kt := KpB bs) (K2 := KpB bs) (by decide) (gf := 60) (lb := #[.pointer (some ⟨tb + 1, 0, none⟩)]) rfl (enters_of Try.func60 (by kernel_rfl) rfl)
    (legs_pos _ (by decide) bs (tb + 1) a0 a1 G D a2 a3 a4 n2 c2 n3 c3 c4 (secT D n3) W0 hgn hdn hok hM) KpB.trans (fun W l o o' hl h a b => KpB.put (N := W0.heap.size) (fun b hb => (hbs b hb).1) W l o o' hl h a b) (Below.refl _ _) (fun _ => rfl)
    (fun k W => (BoxN W mb 3 ((conT b t (legC a1 G D) n2 (List.range k)).map fun x => Value.int .i64 x) ∧ KeptO N mb W0 W) ∧ Below mb W0 W)
    (fun c k W => c = .exit 0 ∧ t ≤ (legC a1 G D k).bs ∧ (BoxN W mb 3 ((conT b t (legC a1 G D) n2 (List.range k)).map fun x => Value.int .i64 x) ∧ KeptO N mb W0 W) ∧ Below mb W0 W)
    (OwnFrom.and (OwnFrom.and (Own.from (boxN_own mb 3 (fun (k : Nat) => (conT b t (legC a1 G D) n2 (List.range k)).map fun x => Value.int .i64 x)) _) (keptO_own (by omega) (by omega))) (ownFrom_below (by omega) (by omega)))
    (fun c k X Y row hs hg hr => ⟨hs.1, hs.2.1, (OwnFrom.and (OwnFrom.and (Own.from (boxN_own mb 3 (fun (k : Nat) => (conT b t (legC a1 G D) n2 (List.range k)).map fun x => Value.int .i64 x)) _) (keptO_own (by omega) (by omega))) (ownFrom_below (by omega) (by omega)) : OwnFrom W0.heap.size (fun (k : Nat) W => (BoxN W mb 3 ((conT b t (legC a1 G D) n2 (List.range k)).map fun x => Value.int .i64 x) ∧ KeptO N mb W0 W) ∧ Below mb W0 W)) k X Y row hs.2.2 hg hr⟩)
    (fun k X Y hs hb => ⟨⟨(hb.block mb (by omega)).trans hs.1.1, hs.1.2.trans (KeptO.of_below (hb.mono (by omega)))⟩, hs.2.trans (hb.mono (by omega))⟩)
    (fun k X Y h _ => h)
    ⟨⟨by rw [← hrep]; exact Bm0, KeptO.refl _ _ _⟩, Below.refl _ _⟩
    (fun k a' W => ∃ Bx t0 t1 t2 t3 t6 t7 t8 t9 t12 t13 t14 t15 t16 t17 t18 t19 t20 t21 t22 t23 t24 t25 t26 t27 t28 t29 t30 t31 t32 t33 t34 t35 t36 t37 t38 t39 t40 t41 t42 t43 t44 t45 t46 t47 t48 t49 t50 t51 t52 t53 t54 t55 t56 t57 t58 t59 t60 t61 t62 t63, N ≤ Bx ∧ BoxN W Bx 94 [.int .i64 (legC a1 G D k).s, .int .i64 (legC a1 G D k).d, .int .i64 (legC a1 G D k).g, .int .i64 (legC a1 G D k).nu, .int .i64 (legC a1 G D k).bs, .int .i64 (legC a1 G D k).bd, .int .i64 (legC a1 G D k).su, .int .i64 (legC a1 G D k).o, .int .i64 (legC a1 G D k).h] ∧ a' = { tmps := #[t0, t1, t2, t3, .pointer (some ⟨rb, 0, none⟩), .pointer (some ⟨sb, 0, none⟩), t6, t7, t8, t9, .pointer (some ⟨tb, 0, none⟩), .pointer (some ⟨Bx, 0, none⟩), t12, t13, t14, t15, t16, t17, t18, t19, t20, t21, t22, t23, t24, t25, t26, t27, t28, t29, t30, t31, t32, t33, t34, t35, t36, t37, t38, t39, t40, t41, t42, t43, t44, t45, t46, t47, t48, t49, t50, t51, t52, t53, t54, t55, t56, t57, t58, t59, t60, t61, t62, t63], defers := [] })
    (fun k a' _ X Y row hs hg hr => by obtain ⟨Bx, t0, t1, t2, t3, t6, t7, t8, t9, t12, t13, t14, t15, t16, t17, t18, t19, t20, t21, t22, t23, t24, t25, t26, t27, t28, t29, t30, t31, t32, t33, t34, t35, t36, t37, t38, t39, t40, t41, t42, t43, t44, t45, t46, t47, t48, t49, t50, t51, t52, t53, t54, t55, t56, t57, t58, t59, t60, t61, t62, t63, h1, h2, h3⟩ := hs; exact ⟨Bx, t0, t1, t2, t3, t6, t7, t8, t9, t12, t13, t14, t15, t16, t17, t18, t19, t20, t21, t22, t23, t24, t25, t26, t27, t28, t29, t30, t31, t32, t33, t34, t35, t36, t37, t38, t39, t40, t41, t42, t43, t44, t45, t46, t47, t48, t49, t50, t51, t52, t53, t54, t55, t56, t57, t58, t59, t60, t61, t62, t63, h1, boxN_own Bx 94 (fun (_ : Unit) => [.int .i64 (legC a1 G D k).s, .int .i64 (legC a1 G D k).d, .int .i64 (legC a1 G D k).g, .int .i64 (legC a1 G D k).nu, .int .i64 (legC a1 G D k).bs, .int .i64 (legC a1 G D k).bd, .int .i64 (legC a1 G D k).su, .int .i64 (legC a1 G D k).o, .int .i64 (legC a1 G D k).h]) () X Y row h2 hg (fun r e => (hr r e).2), h3⟩)
    ?assign ?body ?done ?stop
  case assign =>
    rintro l k W K hk9 hi hK
    have hko := hi.1.2
    have hNW : N ≤ W.heap.size := by rw [← hN]; exact hko.size
    gi_wp2
    have HB9 : BoxN (W.alloc (.cells #[.int .i64 (legC a1 G D k).s, .int .i64 (legC a1 G D k).d, .int .i64 (legC a1 G D k).g, .int .i64 (legC a1 G D k).nu, .int .i64 (legC a1 G D k).bs, .int .i64 (legC a1 G D k).bd, .int .i64 (legC a1 G D k).su, .int .i64 (legC a1 G D k).o, .int .i64 (legC a1 G D k).h] 94)) W.heap.size 94 [.int .i64 (legC a1 G D k).s, .int .i64 (legC a1 G D k).d, .int .i64 (legC a1 G D k).g, .int .i64 (legC a1 G D k).nu, .int .i64 (legC a1 G D k).bs, .int .i64 (legC a1 G D k).bd, .int .i64 (legC a1 G D k).su, .int .i64 (legC a1 G D k).o, .int .i64 (legC a1 G D k).h] := BoxN.new W 94 [.int .i64 (legC a1 G D k).s, .int .i64 (legC a1 G D k).d, .int .i64 (legC a1 G D k).g, .int .i64 (legC a1 G D k).nu, .int .i64 (legC a1 G D k).bs, .int .i64 (legC a1 G D k).bd, .int .i64 (legC a1 G D k).su, .int .i64 (legC a1 G D k).o, .int .i64 (legC a1 G D k).h]
    have hb9 : Below W.heap.size W (W.alloc (.cells #[.int .i64 (legC a1 G D k).s, .int .i64 (legC a1 G D k).d, .int .i64 (legC a1 G D k).g, .int .i64 (legC a1 G D k).nu, .int .i64 (legC a1 G D k).bs, .int .i64 (legC a1 G D k).bd, .int .i64 (legC a1 G D k).su, .int .i64 (legC a1 G D k).o, .int .i64 (legC a1 G D k).h] 94)) := (Below.refl _ _).alloc (Nat.le_refl _) _
    refine hK _ _ (keepsFrom_below _ hb9) ((KeptO.of_below (N := N) (t := mb) (hb9.mono hNW)).kpB (by rw [← hN]; exact hbs)) ?_ ⟨W.heap.size, _, _, _, _, _, _, _, _, _, _, _, _, _, _, _, _, _, _, _, _, _, _, _, _, _, _, _, _, _, _, _, _, _, _, _, _, _, _, _, _, _, _, _, _, _, _, _, _, _, _, _, _, _, _, _, _, _, _, _, _, hNW, HB9, rfl⟩
    obtain ⟨⟨hrow, hko⟩, hbl⟩ := hi
    exact ⟨⟨(hb9.block mb hrow.lt).trans hrow, hko.trans (KeptO.of_below (hb9.mono hNW))⟩, hbl.trans (hb9.mono (by omega))⟩
  case body =>
    rintro l k a' W hl hk9 ⟨⟨HBm, hko⟩, hbl⟩ ⟨Bx, t0, t1, t2, t3, t6, t7, t8, t9, t12, t13, t14, t15, t16, t17, t18, t19, t20, t21, t22, t23, t24, t25, t26, t27, t28, t29, t30, t31, t32, t33, t34, t35, t36, t37, t38, t39, t40, t41, t42, t43, t44, t45, t46, t47, t48, t49, t50, t51, t52, t53, t54, t55, t56, t57, t58, t59, t60, t61, t62, t63, hBx, HB9, rfl⟩
    obtain ⟨gk, hgk0, hgkl⟩ := legC_g hok.out k
    obtain ⟨yl, hy⟩ : ∃ z, Hid (legC a1 G D k = z) := ⟨_, Lib.hid rfl⟩
    have hyo : Hid (PlOk yl) := Lib.hid (by rw [← hy.out]; exact legC_ok hok.out k)
    have hys : yl.s ≤ 20000 := by rw [← hy.out]; exact hshort.out k
    have hys1 := hyo.out.s
    have hybs := hyo.out.bs
    rw [hy.out] at HB9 hgk0
    have hgk := Lib.hid hgk0
    rw [hgk0] at HB9
    clear hgk0
    have hNW : N ≤ W.heap.size := by rw [← hN]; exact hko.size
    have htb2 : tb < W.heap.size := by omega
    have hmbW : mb < W.heap.size := by omega
    have hrbW : rb < W.heap.size := by omega
    have hsbW : sb < W.heap.size := by omega
    have HB := HB9.blk hBx
    obtain ⟨l0, l1, l2, l3, l4, l5, l6, l7, l8⟩ := b9 HB
    have s0 : W.cell? ⟨tb, 0, none⟩ = some (.slice (some ⟨mb, 0, none⟩) n2 n2) := (hko.cell (by omega) (by omega) 0).trans (b1 (bS.blk (N := tb) (Nat.le_refl _)))
    have s1 : W.cell? ⟨rb, 0, none⟩ = some (.int .i64 b) := (hko.cell (by omega) (by omega) 0).trans (b1 WR)
    have s2 : W.cell? ⟨sb, 0, none⟩ = some (.int .i64 t) := (hko.cell (by omega) (by omega) 0).trans (b1 WS)
    by_cases hbt : t ≤ yl.bs
    · refine wpIn_block ?_
      gi_wp2
      exact ⟨keepsFrom_below _ (Below.refl _ _), rfl, by rw [hy.out]; exact hbt, ⟨HBm, hko⟩, hbl⟩
    have htb9 : ¬ t ≤ yl.bs := hbt
    have htb8 : yl.bs < t := by omega
    obtain ⟨d9, hd9⟩ : ∃ z, Hid (t - yl.bs = z) := ⟨_, Lib.hid rfl⟩
    have hwd : IntKind.i64.wrap (t - yl.bs) = d9 := by rw [IntWalk.i64_in _ (by omega)]; exact hd9.out
    obtain ⟨m9, hm9⟩ : ∃ z, Hid (min yl.s d9 = z) := ⟨_, Lib.hid rfl⟩
    have e1 : (if d9 < yl.s then d9 else yl.s) = m9 := by have := hm9.out; split <;> omega
    have m0 : 0 ≤ m9 := by have := hm9.out; have := hd9.out; omega
    have m1 : m9 ≤ yl.s := by have := hm9.out; omega
    obtain ⟨q9, hq9⟩ : ∃ z, Hid (binS yl b t = z) := ⟨_, Lib.hid rfl⟩
    have hqv : Hid (binV yl b m9 = q9) := Lib.hid (by rw [← hq9.out]; unfold binS; rw [if_neg hbt, hd9.out, hm9.out])
    have HBR : Hid (∀ X : World, Calls Try.prog 40 #[.agg #[.int .i64 yl.s, .int .i64 yl.d, .int .i64 (gk : Int), .int .i64 yl.nu, .int .i64 yl.bs, .int .i64 yl.bd, .int .i64 yl.su, .int .i64 yl.o, .int .i64 yl.h], .int .i64 b, .int .i64 m9] X fun e w' => e = .returned (.int .i64 q9) ∧ Below X.heap.size X w') := Lib.hid fun X => by
      have h := breathedIn_is yl b m9 q9 X hyo hbb.1 hbb.2 m0 m1 hys hqv
      rw [hgk.out] at h
      exact h
    have hgn2 : gk < n2 := by have := hgn.out; omega
    obtain ⟨L, hL⟩ : ∃ z, Hid (conT b t (legC a1 G D) n2 (List.range k) = z) := ⟨_, Lib.hid rfl⟩
    have hLl : L.length = n2 := by rw [← hL.out]; exact (conT_snocL b t (legC a1 G D) n2 k (List.range k) (by simp)).1
    have hLb := (conT_snocL b t (legC a1 G D) n2 k (List.range k) (by simp)).2 (legC_ok hok.out) hshort.out hbb.1 hbb.2 htt.1 gk
    rw [hL.out] at hLb HBm
    obtain ⟨c9, hc9⟩ : ∃ z, Hid (L.getD gk 0 = z) := ⟨_, Lib.hid rfl⟩
    rw [hc9.out] at hLb
    have hbq := binS_bd (t := t) hyo.out hbb.1 hbb.2 hys htt.1
    rw [hq9.out] at hbq
    have hlen2 : (k : Int) * 124400000000000 ≤ 60 * 124400000000000 := by omega
    obtain ⟨s9, hs9⟩ : ∃ z, Hid (c9 + q9 = z) := ⟨_, Lib.hid rfl⟩
    have hwS : IntKind.i64.wrap (c9 + q9) = s9 := by rw [IntWalk.i64_in _ (by omega)]; exact hs9.out
    have hc : W.cell? ⟨mb, gk, none⟩ = some (.int .i64 c9) := by
      have hg : L[gk]? = some c9 := by rw [← hc9.out, List.getD_eq_getElem?_getD, List.getElem?_eq_getElem (by omega)]; rfl
      exact (HBm.blk (N := mb) (Nat.le_refl _)).at' gk _ (by rw [List.getElem?_map, hg]; rfl)
    rw [hN] at hbs
    have q0 : ¬ (gk : Int) < 0 := by omega
    have q1 : (gk : Int) < (n2 : Int) := by omega
    have HS : Hid (∀ y, Below W.heap.size W y → y.cell? ⟨tb, 0, none⟩ = some (.slice (some ⟨mb, 0, none⟩) n2 n2) ∧ y.cell? ⟨Bx, 0, none⟩ = some (.int .i64 yl.s) ∧ y.cell? ⟨Bx, 1, none⟩ = some (.int .i64 yl.d) ∧ y.cell? ⟨Bx, 2, none⟩ = some (.int .i64 (gk : Int)) ∧ y.cell? ⟨Bx, 3, none⟩ = some (.int .i64 yl.nu) ∧ y.cell? ⟨Bx, 4, none⟩ = some (.int .i64 yl.bs) ∧ y.cell? ⟨Bx, 5, none⟩ = some (.int .i64 yl.bd) ∧ y.cell? ⟨Bx, 6, none⟩ = some (.int .i64 yl.su) ∧ y.cell? ⟨Bx, 7, none⟩ = some (.int .i64 yl.o) ∧ y.cell? ⟨Bx, 8, none⟩ = some (.int .i64 yl.h) ∧ y.cell? ⟨mb, gk, none⟩ = some (.int .i64 c9) ∧ y.cell? ⟨rb, 0, none⟩ = some (.int .i64 b) ∧ y.cell? ⟨sb, 0, none⟩ = some (.int .i64 t)) := Lib.hid fun y hy => ⟨(hy.cell (p := ⟨tb, 0, none⟩) htb2).trans s0, (hy.cell (p := ⟨Bx, 0, none⟩) HB9.lt).trans l0, (hy.cell (p := ⟨Bx, 1, none⟩) HB9.lt).trans l1, (hy.cell (p := ⟨Bx, 2, none⟩) HB9.lt).trans l2, (hy.cell (p := ⟨Bx, 3, none⟩) HB9.lt).trans l3, (hy.cell (p := ⟨Bx, 4, none⟩) HB9.lt).trans l4, (hy.cell (p := ⟨Bx, 5, none⟩) HB9.lt).trans l5, (hy.cell (p := ⟨Bx, 6, none⟩) HB9.lt).trans l6, (hy.cell (p := ⟨Bx, 7, none⟩) HB9.lt).trans l7, (hy.cell (p := ⟨Bx, 8, none⟩) HB9.lt).trans l8, (hy.cell (p := ⟨mb, gk, none⟩) hmbW).trans hc, (hy.cell (p := ⟨rb, 0, none⟩) hrbW).trans s1, (hy.cell (p := ⟨sb, 0, none⟩) hsbW).trans s2⟩
    refine wpIn_block ?_
    gi_upto_region 9 with (fail)
    clear s0 s1 s2 l0 l1 l2 l3 l4 l5 l6 l7 l8 HB hc hLb hbq hlen2
    refine wpIn_round_heldZ (S := (fun w' => w'.cell? ⟨tb, 0, none⟩ = some (.slice (some ⟨mb, 0, none⟩) n2 n2) ∧ w'.cell? ⟨Bx, 0, none⟩ = some (.int .i64 yl.s) ∧ w'.cell? ⟨Bx, 1, none⟩ = some (.int .i64 yl.d) ∧ w'.cell? ⟨Bx, 2, none⟩ = some (.int .i64 (gk : Int)) ∧ w'.cell? ⟨Bx, 3, none⟩ = some (.int .i64 yl.nu) ∧ w'.cell? ⟨Bx, 4, none⟩ = some (.int .i64 yl.bs) ∧ w'.cell? ⟨Bx, 5, none⟩ = some (.int .i64 yl.bd) ∧ w'.cell? ⟨Bx, 6, none⟩ = some (.int .i64 yl.su) ∧ w'.cell? ⟨Bx, 7, none⟩ = some (.int .i64 yl.o) ∧ w'.cell? ⟨Bx, 8, none⟩ = some (.int .i64 yl.h) ∧ w'.cell? ⟨mb, gk, none⟩ = some (.int .i64 c9) ∧ w'.cell? ⟨rb, 0, none⟩ = some (.int .i64 b) ∧ w'.cell? ⟨sb, 0, none⟩ = some (.int .i64 t))) 20 (by kernel_rfl) (by kernel_rfl) (not_letsOut_block not_letsOut_pos) (by kernel_rfl) (by kernel_rfl) (HS.out _ (Below.refl _ _).drew) (fun hHeld => ?_)
    have hT0 : Below W.heap.size W W.drew := (Below.refl _ _).drew
    generalize hdr : W.drew = v0 at *
    clear hdr
    refine wpAnyZ_take (i := 0) (oi := ⟨some 43, _, _, _, _, _⟩) (v := ?_) (by kernel_rfl) (by kernel_rfl) rfl rfl (by kernel_rfl) (by kernel_rfl) (by kernel_rfl) (fun _ _ _ h => h) (Or.inl ⟨by kernel_rfl, ?_⟩) (by assumption) ?_
    rotate_left
    · (intro w hSw; (try dsimp only at hSw); go_simp; all_goals with_reducible rfl)
    try simp only [Act.put, sA, sB, sC]
    refine wpAnyZ_take (i := 1) (oi := ⟨some 44, _, _, _, _, _⟩) (v := ?_) (by kernel_rfl) (by kernel_rfl) rfl rfl (by kernel_rfl) (by kernel_rfl) (by kernel_rfl) (fun _ _ _ h => h) (Or.inl ⟨by kernel_rfl, ?_⟩) (by assumption) ?_
    rotate_left
    · (intro w hSw; (try dsimp only at hSw); go_simp; all_goals with_reducible rfl)
    try simp only [Act.put, sA, sB, sC]
    refine wpAnyZ_take (i := 2) (oi := ⟨some 45, _, _, _, _, _⟩) (v := ?_) (by kernel_rfl) (by kernel_rfl) rfl rfl (by kernel_rfl) (by kernel_rfl) (by kernel_rfl) (fun _ _ _ h => h) (Or.inl ⟨by kernel_rfl, ?_⟩) (by assumption) ?_
    rotate_left
    · (intro w hSw; (try dsimp only at hSw); go_simp; all_goals with_reducible rfl)
    try simp only [Act.put, sA, sB, sC]
    refine wpAnyZ_take (i := 3) (oi := ⟨some 46, _, _, _, _, _⟩) (v := ?_) (by kernel_rfl) (by kernel_rfl) rfl rfl (by kernel_rfl) (by kernel_rfl) (by kernel_rfl) (fun _ _ _ h => h) (Or.inl ⟨by kernel_rfl, ?_⟩) (by assumption) ?_
    rotate_left
    · (intro w hSw; (try dsimp only at hSw); go_simp; all_goals with_reducible rfl)
    try simp only [Act.put, sA, sB, sC]
    refine wpAnyZ_take (i := 4) (oi := ⟨some 47, _, _, _, _, _⟩) (v := ?_) (by kernel_rfl) (by kernel_rfl) rfl rfl (by kernel_rfl) (by kernel_rfl) (by kernel_rfl) (fun _ _ _ h => h) (Or.inl ⟨by kernel_rfl, ?_⟩) (by assumption) ?_
    rotate_left
    · (intro w hSw; (try dsimp only at hSw); go_simp; all_goals with_reducible rfl)
    try simp only [Act.put, sA, sB, sC]
    refine wpAnyZ_take (i := 5) (oi := ⟨some 48, _, _, _, _, _⟩) (v := ?_) (by kernel_rfl) (by kernel_rfl) rfl rfl (by kernel_rfl) (by kernel_rfl) (by kernel_rfl) (fun _ _ _ h => h) (Or.inl ⟨by kernel_rfl, ?_⟩) (by assumption) ?_
    rotate_left
    · (intro w hSw; (try dsimp only at hSw); go_simp; all_goals with_reducible rfl)
    try simp only [Act.put, sA, sB, sC]
    refine wpAnyZ_take (i := 6) (oi := ⟨some 49, _, _, _, _, _⟩) (v := ?_) (by kernel_rfl) (by kernel_rfl) rfl rfl (by kernel_rfl) (by kernel_rfl) (by kernel_rfl) (fun _ _ _ h => h) (Or.inl ⟨by kernel_rfl, ?_⟩) (by assumption) ?_
    rotate_left
    · (intro w hSw; (try dsimp only at hSw); go_simp; all_goals with_reducible rfl)
    try simp only [Act.put, sA, sB, sC]
    refine wpAnyZ_take (i := 7) (oi := ⟨some 50, _, _, _, _, _⟩) (v := ?_) (by kernel_rfl) (by kernel_rfl) rfl rfl (by kernel_rfl) (by kernel_rfl) (by kernel_rfl) (fun _ _ _ h => h) (Or.inl ⟨by kernel_rfl, ?_⟩) (by assumption) ?_
    rotate_left
    · (intro w hSw; (try dsimp only at hSw); go_simp; all_goals with_reducible rfl)
    try simp only [Act.put, sA, sB, sC]
    refine wpAnyZ_take (i := 8) (oi := ⟨some 51, _, _, _, _, _⟩) (v := ?_) (by kernel_rfl) (by kernel_rfl) rfl rfl (by kernel_rfl) (by kernel_rfl) (by kernel_rfl) (fun _ _ _ h => h) (Or.inl ⟨by kernel_rfl, ?_⟩) (by assumption) ?_
    rotate_left
    · (intro w hSw; (try dsimp only at hSw); go_simp; all_goals with_reducible rfl)
    try simp only [Act.put, sA, sB, sC]
    refine wpAnyZ_take (i := 9) (oi := ⟨some 52, _, _, _, _, _⟩) (v := ?_) (by kernel_rfl) (by kernel_rfl) rfl rfl (by kernel_rfl) (by kernel_rfl) (by kernel_rfl) (fun _ _ _ h => h) (Or.inl ⟨by kernel_rfl, ?_⟩) (by assumption) ?_
    rotate_left
    · (intro w hSw; (try dsimp only at hSw); go_simp; all_goals with_reducible rfl)
    try simp only [Act.put, sA, sB, sC]
    refine wpAnyZ_take (i := 10) (oi := ⟨some 53, _, _, _, _, _⟩) (v := ?_) (by kernel_rfl) (by kernel_rfl) rfl rfl (by kernel_rfl) (by kernel_rfl) (by kernel_rfl) (fun _ _ _ h => h) (Or.inl ⟨by kernel_rfl, ?_⟩) (by assumption) ?_
    rotate_left
    · (intro w hSw; (try dsimp only at hSw); go_simp; all_goals with_reducible rfl)
    try simp only [Act.put, sA, sB, sC]
    refine wpAnyZ_take (i := 11) (oi := ⟨some 54, _, _, _, _, _⟩) (v := ?_) (by kernel_rfl) (by kernel_rfl) rfl rfl (by kernel_rfl) (by kernel_rfl) (by kernel_rfl) (fun _ _ _ h => h) (Or.inl ⟨by kernel_rfl, ?_⟩) (by assumption) ?_
    rotate_left
    · (intro w hSw; (try dsimp only at hSw); go_simp; all_goals with_reducible rfl)
    try simp only [Act.put, sA, sB, sC]
    refine wpAnyZ_take (i := 12) (oi := ⟨some 55, _, _, _, _, _⟩) (v := ?_) (by kernel_rfl) (by kernel_rfl) rfl rfl (by kernel_rfl) (by kernel_rfl) (by kernel_rfl) (fun _ _ _ h => h) (Or.inl ⟨by kernel_rfl, ?_⟩) (by assumption) ?_
    rotate_left
    · (intro w hSw; (try dsimp only at hSw); go_simp; all_goals with_reducible rfl)
    try simp only [Act.put, sA, sB, sC]
    refine wpAnyZ_take (i := 13) (oi := ⟨some 56, _, _, _, _, _⟩) (v := ?_) (by kernel_rfl) (by kernel_rfl) rfl rfl (by kernel_rfl) (by kernel_rfl) (by kernel_rfl) (fun _ _ _ h => h) (Or.inl ⟨by kernel_rfl, ?_⟩) (by assumption) ?_
    rotate_left
    · (intro w hSw; (try dsimp only at hSw); go_simp; all_goals with_reducible rfl)
    try simp only [Act.put, sA, sB, sC]
    refine wpAnyZ_take (i := 14) (oi := ⟨some 57, _, _, _, _, _⟩) (v := ?_) (by kernel_rfl) (by kernel_rfl) rfl rfl (by kernel_rfl) (by kernel_rfl) (by kernel_rfl) (fun _ _ _ h => h) (Or.inl ⟨by kernel_rfl, ?_⟩) (by assumption) ?_
    rotate_left
    · (intro w hSw; (try dsimp only at hSw); go_simp; all_goals with_reducible rfl)
    try simp only [Act.put, sA, sB, sC]
    refine wpAnyZ_take (i := 15) (oi := ⟨some 58, _, _, _, _, _⟩) (v := ?_) (by kernel_rfl) (by kernel_rfl) rfl rfl (by kernel_rfl) (by kernel_rfl) (by kernel_rfl) (fun _ _ _ h => h) (Or.inl ⟨by kernel_rfl, ?_⟩) (by assumption) ?_
    rotate_left
    · (intro w hSw; (try dsimp only at hSw); go_simp; all_goals with_reducible rfl)
    try simp only [Act.put, sA, sB, sC]
    refine wpAnyZ_take (i := 16) (oi := ⟨some 59, _, _, _, _, _⟩) (v := ?_) (by kernel_rfl) (by kernel_rfl) rfl rfl (by kernel_rfl) (by kernel_rfl) (by kernel_rfl) (fun _ _ _ h => h) (Or.inl ⟨by kernel_rfl, ?_⟩) (by assumption) ?_
    rotate_left
    · (intro w hSw; (try dsimp only at hSw); go_simp; (try simp only [e1]); all_goals with_reducible rfl)
    try simp only [Act.put, sA, sB, sC]
    refine wpAnyZ_call (q := 17) (by kernel_rfl) rfl rfl (fun K hK => ?_)
    go_simp
    refine (HBR.out _).mono ?_
    rintro e v1 ⟨rfl, hbv0⟩
    have hT1 : Below W.heap.size W v1 := hT0.trans (hbv0.mono hT0.size)
    clear hbv0
    go_wp2_with fail
    refine hK.out _ _ (HS.out _ hT1) (fun hHeld => ?_)
    clear hK K
    try simp only [Act.put, sA, sB, sC]
    refine wpAnyZ_take (i := 18) (oi := ⟨some 61, _, _, _, _, _⟩) (v := ?_) (by kernel_rfl) (by kernel_rfl) rfl rfl (by kernel_rfl) (by kernel_rfl) (by kernel_rfl) (fun _ _ _ h => h) (Or.inl ⟨by kernel_rfl, ?_⟩) (by assumption) ?_
    rotate_left
    · (intro w hSw; (try dsimp only at hSw); go_simp; all_goals with_reducible rfl)
    try simp only [Act.put, sA, sB, sC]
    refine wpAnyZ_take (i := 19) (oi := ⟨some 62, _, _, _, _, _⟩) (v := ?_) (by kernel_rfl) (by kernel_rfl) rfl rfl (by kernel_rfl) (by kernel_rfl) (by kernel_rfl) (fun _ _ _ h => h) (Or.inl ⟨by kernel_rfl, ?_⟩) (by assumption) ?_
    rotate_left
    · (intro w hSw; (try dsimp only at hSw); go_simp; all_goals with_reducible rfl)
    try simp only [Act.put, sA, sB, sC]
    have HTV := Lib.hid hT1
    have HBM : BoxN v1 mb 3 (L.map fun x => Value.int .i64 x) := (hT1.block mb hmbW).trans HBm
    have hfz := (HBM.blk (N := mb) (Nat.le_refl _)).fz gk
    have hcl := (HS.out _ hT1).2.2.2.2.2.2.2.2.2.2.1
    refine wpAnyZ_last (by kernel_rfl) rfl (fun K hK => ?_)
    go_simp
    go_wp2_with fail
    refine hK.out _ _ ?_
    clear hK K
    try simp only [Act.put, sA, sB, sC]
    have k2 := HBM.set gk (.int .i64 s9)
    have k6 : KeptO N mb v1 (v1.setCell ⟨mb, gk, none⟩ (.int .i64 s9)) := ⟨by simp, fun b _ hn => Below.heap_setCell _ _ _ b (fun e => hn (by rw [e]))⟩
    have k5 : Below mb v1 (v1.setCell ⟨mb, gk, none⟩ (.int .i64 s9)) := (Below.refl _ _).setCell (p := ⟨mb, gk, none⟩) (Nat.le_refl _) _
    refine ⟨(keepsFrom_below _ HTV.out).trans ((KeepsOthers.setCell _ _ _).from _), (((KeptO.of_below (HTV.out.mono hNW)).trans k6).kpB hbs), ⟨?_, hko.trans ((KeptO.of_below (HTV.out.mono hNW)).trans k6)⟩, hbl.trans ((HTV.out.mono (by omega)).trans k5)⟩
    have e9 : conT b t (legC a1 G D) n2 (List.range (k + 1)) = L.set gk s9 := by rw [List.range_succ, conT_snoc, hL.out, hy.out]; unfold ctStep; rw [hgk.out, Int.toNat_natCast, hc9.out, hq9.out, hs9.out]
    rw [e9, List.map_set]
    exact k2
  case done =>
    rintro Dq W hDq ⟨⟨HBm, hko⟩, hbl⟩ hK
    have hLL : conT b t (legC a1 G D) n2 (List.range n3) = conT b t (legK a1 G D) n2 (List.range n3) := conT_range (by have := hdn.out; omega)
    have hlen := (conT_snocL b t (legC a1 G D) n2 n3 (List.range n3) (by simp)).1
    rw [hLL] at HBm hlen
    have s0 : W.cell? ⟨tb, 0, none⟩ = some (.slice (some ⟨mb, 0, none⟩) n2 n2) := (hko.cell (by omega) (by omega) 0).trans (b1 (bS.blk (N := tb) (Nat.le_refl _)))
    have hmD : mb ≠ Dq := fun e => by have h := (show W.heap[mb]? = _ from HBm); rw [e, hK] at h; cases h
    have hS5 : SlRows inV 1 (W.putObj Dq (.deferred none)) (some ⟨mb, 0, none⟩) (conT b t (legK a1 G D) n2 (List.range n3)) := by
      refine Or.inr ⟨mb, 0, rfl, by have := HBm.lt; simpa using this, fun k hk i hi => ?_⟩
      obtain rfl : i = 0 := by omega
      have hc := (HBm.blk (N := mb) (Nat.le_refl _)).at' k (.int .i64 ((conT b t (legK a1 G D) n2 (List.range n3))[k])) (by rw [List.getElem?_map, List.getElem?_eq_getElem hk]; rfl)
      refine (World.cell?_of_block (a := ⟨mb, _, none⟩) (World.putObj_heap_other hmD)).trans ?_
      have e : 0 + k * 1 + 0 = k := by omega
      rw [e]
      exact hc
    gi_wp2
    refine ⟨by simp, .inl ⟨_, _, rfl, run_takeDeferred hK, ?_⟩⟩
    refine ⟨_, results_tmp2 rfl _ _ _, ⟨mb, rfl, hS5, by have := hBW.size; have := hB3.size; omega, ?_⟩⟩
    exact (hBW.trans (hbl.mono (by have := hB3.size; omega))).trans (belowK_b (w := w) (Nat.le_refl _) W Dq _ _ (by have := hBW.size; omega) hK rfl rfl)
  case stop =>
    rintro Dq c k W hDq hk9 ⟨rfl, hbt, ⟨HBm, hko⟩, hbl⟩ hK
    have hLL : conT b t (legC a1 G D) n2 (List.range k) = conT b t (legK a1 G D) n2 (List.range n3) := by
      rw [conT_range (by have := hdn.out; omega)]
      exact (conT_cut hok.out hdn hgn (by omega) (by rw [legC_is (by have := hdn.out; omega)] at hbt; exact hbt)).symm
    have hlen := (conT_snocL b t (legC a1 G D) n2 k (List.range k) (by simp)).1
    rw [hLL] at HBm hlen
    have s0 : W.cell? ⟨tb, 0, none⟩ = some (.slice (some ⟨mb, 0, none⟩) n2 n2) := (hko.cell (by omega) (by omega) 0).trans (b1 (bS.blk (N := tb) (Nat.le_refl _)))
    have hmD : mb ≠ Dq := fun e => by have h := (show W.heap[mb]? = _ from HBm); rw [e, hK] at h; cases h
    have hS5 : SlRows inV 1 (W.putObj Dq (.deferred none)) (some ⟨mb, 0, none⟩) (conT b t (legK a1 G D) n2 (List.range n3)) := by
      refine Or.inr ⟨mb, 0, rfl, by have := HBm.lt; simpa using this, fun k hk i hi => ?_⟩
      obtain rfl : i = 0 := by omega
      have hc := (HBm.blk (N := mb) (Nat.le_refl _)).at' k (.int .i64 ((conT b t (legK a1 G D) n2 (List.range n3))[k])) (by rw [List.getElem?_map, List.getElem?_eq_getElem hk]; rfl)
      refine (World.cell?_of_block (a := ⟨mb, _, none⟩) (World.putObj_heap_other hmD)).trans ?_
      have e : 0 + k * 1 + 0 = k := by omega
      rw [e]
      exact hc
    gi_wp2
    refine ⟨by simp, .inl ⟨_, _, rfl, run_takeDeferred hK, ?_⟩⟩
    refine ⟨_, results_tmp2 rfl _ _ _, ⟨mb, rfl, hS5, by have := hBW.size; have := hB3.size; omega, ?_⟩⟩
    exact (hBW.trans (hbl.mono (by have := hB3.size; omega))).trans (belowK_b (w := w) (Nat.le_refl _) W Dq _ _ (by have := hBW.size; omega) hK rfl rfl)
end Go.Proofs.Ytgidmmmdpmophaa
