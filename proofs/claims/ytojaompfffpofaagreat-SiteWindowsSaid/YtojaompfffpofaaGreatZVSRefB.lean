import Derived.Test.YtojaompfffpofaaGreatZVSRefH
import Derived.Test.YtojaompfffpofaaGreatZVSRefC0
import Derived.Outline
namespace Go.Proofs.YtojaompfffpofaaGreat
open Go.ChangeShapes Go.WideShapes Go.ChangeAt Go.RowKit
set_option linter.unusedVariables false
set_option linter.unusedSimpArgs false
attribute [local go_sem ↓] Go.wp_at_zero Go.wp_at_succ
/-- Two cells of a block of two. -/
def Two (X : World) (b : Nat) (u v : Int) : Prop := X.cell? ⟨b, 0, none⟩ = some (.int .i64 u) ∧ X.cell? ⟨b, 1, none⟩ = some (.int .i64 v)
/-- Where the loop stands: the halves' blocks, the two enclosures so far, the results' cells. -/
structure BoS (w : World) (n k : Nat) (C S : List Value) (p : Pt) (X : World) : Prop where
  c : X.rangeAt n 0 C
  s : X.rangeAt (n + 1) 0 S
  x : Two X k p.a p.b
  y : Two X (k + 1) p.c p.d
  tx : X.there k 0 2
  ty : X.there (k + 1) 0 2
  t0 : X.there w.heap.size 0 2
  t1 : X.there (w.heap.size + 1) 0 2
  nw : w.heap.size + 2 ≤ n
  kn : n + 2 ≤ k
  sz : k + 2 ≤ X.heap.size
  be : Below w.heap.size w X
structure Bo1 (w : World) (n : Nat) (C S : List Value) (X : World) : Prop where
  c : X.rangeAt n 0 C
  s : X.rangeAt (n + 1) 0 S
  t0 : X.there w.heap.size 0 2
  t1 : X.there (w.heap.size + 1) 0 2
  nw : w.heap.size + 2 ≤ n
  sz : n + 2 ≤ X.heap.size
  be : Below w.heap.size w X
theorem Two.below {X X' : World} {b : Nat} {u v : Int} (h : Two X b u v) (hb : Below X.heap.size X X') (hl : b < X.heap.size) : Two X' b u v := ⟨(hb.cell (p := ⟨b, 0, none⟩) hl).trans h.1, (hb.cell (p := ⟨b, 1, none⟩) hl).trans h.2⟩
theorem BoS.below {w X X' : World} {n k : Nat} {C S : List Value} {p : Pt} (h : BoS w n k C S p X) (hb : Below X.heap.size X X') : BoS w n k C S p X' := by
  have z := hb.size
  have l := h.sz
  have l2 := h.nw
  have l3 := h.kn
  exact ⟨range_below h.c hb (by omega), range_below h.s hb (by omega), h.x.below hb (by omega), h.y.below hb (by omega), there_below h.tx hb (by omega), there_below h.ty hb (by omega), there_below h.t0 hb (by omega), there_below h.t1 hb (by omega), h.nw, h.kn, by omega, h.be.trans (hb.mono h.be.size)⟩
theorem two_pt {X : World} {b o : Nat} {f : Pt → List Value} (hf : ∀ p, (f p).length = 2) (h : X.rangeAt b o (hvL.flatMap f)) {k : Nat} (hk : k < 11) : X.rangeAt b (o + k * 2) (f (hv k)) := by
  intro j v hj
  have hj2 : j < 2 := by have := (List.getElem?_eq_some_iff.1 hj).1; rw [hf] at this; exact this
  have key : ∀ (L : List Pt) (k : Nat) (q : Pt), L[k]? = some q → (L.flatMap f)[k * 2 + j]? = (f q)[j]? := by
    intro L
    induction L with
    | nil => intro k q h; simp at h
    | cons a L ih =>
      intro k q h
      rw [List.flatMap_cons]
      rcases k with _ | k
      · cases h
        rw [List.getElem?_append_left (by rw [hf]; omega)]; simp
      · rw [List.getElem?_append_right (by rw [hf]; omega), hf, show (k + 1) * 2 + j - 2 = k * 2 + j by omega]
        exact ih k q (by simpa using h)
  have := h (k * 2 + j) v (by rw [key hvL k (hv k) (by unfold hv; rw [List.getD_eq_getElem?_getD, List.getElem?_eq_getElem (show k < hvL.length from hk)]; rfl)]; exact hj)
  rw [show o + k * 2 + j = o + (k * 2 + j) by omega]; exact this
theorem hv_at {X : World} {w : World} {n q : Nat} {C S : List Value} {p : Pt} (hC : Hid (cHV = C)) (hS : Hid (sHV = S)) (h : BoS w n q C S p X) {k : Nat} (hk : k < 11) :
    X.cell? ⟨n, k * 2, none⟩ = some (.int .i64 (hv k).a) ∧ X.cell? ⟨n, k * 2 + 1, none⟩ = some (.int .i64 (hv k).b) ∧ X.cell? ⟨n + 1, k * 2, none⟩ = some (.int .i64 (hv k).c) ∧ X.cell? ⟨n + 1, k * 2 + 1, none⟩ = some (.int .i64 (hv k).d) := by
  have hc := h.c
  have hs := h.s
  rw [← hC.out] at hc
  rw [← hS.out] at hs
  have c := two_pt (f := cPr) (fun _ => rfl) hc hk
  have s := two_pt (f := sPr) (fun _ => rfl) hs hk
  have c0 := c 0 _ rfl
  have c1 := c 1 _ rfl
  have s0 := s 0 _ rfl
  have s1 := s 1 _ rfl
  rw [show 0 + k * 2 + 0 = k * 2 by omega] at c0 s0
  rw [show 0 + k * 2 + 1 = k * 2 + 1 by omega] at c1 s1
  exact ⟨c0, c1, s0, s1⟩
theorem refHalves_is (w : World) (C S : List Value) (hC : Hid (cHV = C)) (hS : Hid (sHV = S)) :
    Calls Tryz.prog 177 #[] w fun e w' => e = .returned (.tuple #[.agg C.toArray, .agg S.toArray]) ∧ Below w.heap.size w w' := by
  rw [← hC.out, ← hS.out]; exact refHalves_any w
theorem th22 {V : World} {Z : List Value} {T : TypeId} {n : Nat} (hz : Z.length = 22) (hn : n = 22) : ((V.alloc (.cells Z.toArray T)).alloc (.cells Z.toArray T)).there V.heap.size 0 n := by
  subst hn; have h := there_new V Z T; rw [hz] at h; exact World.there_alloc h _
theorem th22b {V : World} {Z L : List Value} {T : TypeId} {n : Nat} (hz : Z.length = 22) (hn : n = 22) : (((V.alloc (.cells Z.toArray T)).alloc (.cells Z.toArray T)).setCells V.heap.size 0 L).there (V.heap.size + 1) 0 n := by
  subst hn; have h := there_new (V.alloc (.cells Z.toArray T)) Z T; rw [hz] at h
  refine World.there_setCells ?_ _ _ _
  simpa using h
theorem bo_put {w X : World} {n k : Nat} {C S : List Value} {p : Pt} (h : BoS w n k C S p X) (a b c d : Int) :
    BoS w n k C S ⟨a, b, c, d⟩ ((((X.setCell ⟨k, 0, none⟩ (.int .i64 a)).setCell ⟨k, 1, none⟩ (.int .i64 b)).setCell ⟨k + 1, 0, none⟩ (.int .i64 c)).setCell ⟨k + 1, 1, none⟩ (.int .i64 d)) := by
  have l1 := h.nw
  have l2 := h.kn
  obtain ⟨p1, p2, p3, p4⟩ := put2_is (.int .i64 a) (.int .i64 b) h.tx (show 0 + 2 ≤ 2 by omega)
  obtain ⟨q1, q2, q3, q4⟩ := put2_is (.int .i64 c) (.int .i64 d) (p2 _ _ _ h.ty) (show 0 + 2 ≤ 2 by omega)
  have e : ((((X.setCell ⟨k, 0, none⟩ (.int .i64 a)).setCell ⟨k, 1, none⟩ (.int .i64 b)).setCell ⟨k + 1, 0, none⟩ (.int .i64 c)).setCell ⟨k + 1, 1, none⟩ (.int .i64 d)) = put2 (put2 X k 0 (.int .i64 a) (.int .i64 b)) (k + 1) 0 (.int .i64 c) (.int .i64 d) := rfl
  have be : Below w.heap.size w (put2 (put2 X k 0 (.int .i64 a) (.int .i64 b)) (k + 1) 0 (.int .i64 c) (.int .i64 d)) := by
    unfold put2
    exact ((((h.be.setCell (p := ⟨k, _, none⟩) (by show w.heap.size ≤ k; omega) _).setCell (p := ⟨k, _, none⟩) (by show w.heap.size ≤ k; omega) _).setCell (p := ⟨k + 1, _, none⟩) (by show w.heap.size ≤ k + 1; omega) _).setCell (p := ⟨k + 1, _, none⟩) (by show w.heap.size ≤ k + 1; omega) _)
  rw [e]
  refine ⟨range_keep h.c fun i _ => ?_, range_keep h.s fun i _ => ?_, ⟨?_, ?_⟩, ⟨q1 0 _ rfl, q1 1 _ rfl⟩, q2 _ _ _ (p2 _ _ _ h.tx), q2 _ _ _ (p2 _ _ _ h.ty), q2 _ _ _ (p2 _ _ _ h.t0), q2 _ _ _ (p2 _ _ _ h.t1), h.nw, h.kn, by rw [q4, p4]; exact h.sz, be⟩
  · rw [q3 _ _ (Or.inl (by omega)), p3 _ _ (Or.inl (by omega))]
  · rw [q3 _ _ (Or.inl (by omega)), p3 _ _ (Or.inl (by omega))]
  · rw [q3 _ _ (Or.inl (by omega))]; exact p1 0 _ rfl
  · rw [q3 _ _ (Or.inl (by omega))]; exact p1 1 _ rfl
theorem bo1 {w V : World} {Z L C S : List Value} {T T2 : TypeId} (hz : Z.length = 22) (hC : C.length = 22) (hS : S.length = 22) (hl : L.length = 2) (hb : Below (w.heap.size + 2) ((w.alloc (.cells L.toArray T2)).alloc (.cells L.toArray T2)) V) :
    Bo1 w V.heap.size C S ((((V.alloc (.cells Z.toArray T)).alloc (.cells Z.toArray T)).setCells V.heap.size 0 C).setCells (V.heap.size + 1) 0 S) := by
  have hs := hb.size
  have s2 : ((w.alloc (.cells L.toArray T2)).alloc (.cells L.toArray T2)).heap.size = w.heap.size + 2 := by simp
  rw [s2] at hs
  have a0 := there_new w L T2
  have a1 := there_new (w.alloc (.cells L.toArray T2)) L T2
  rw [hl] at a0 a1
  have s1 : (w.alloc (.cells L.toArray T2)).heap.size = w.heap.size + 1 := by simp
  rw [s1] at a1
  have b0 := there_below (World.there_alloc a0 (.cells L.toArray T2)) hb (by omega)
  have b1 := there_below a1 hb (by omega)
  have v1 : (V.alloc (.cells Z.toArray T)).heap.size = V.heap.size + 1 := by simp
  refine ⟨World.rangeAt_setCells_apart (World.rangeAt_setCells_same _ _ 0 C (th22 hz hC)) _ _ _ (Or.inl (by omega)), World.rangeAt_setCells_same _ _ 0 S (th22b hz hS), World.there_setCells (World.there_setCells (World.there_alloc (World.there_alloc b0 _) _) _ _ _) _ _ _, World.there_setCells (World.there_setCells (World.there_alloc (World.there_alloc b1 _) _) _ _ _) _ _ _, hs, by rw [size_setCells, size_setCells]; simp, ?_⟩
  have hw : Below w.heap.size w V := (((Below.refl _ _).alloc (Nat.le_refl _) _).alloc (by omega) _).trans (hb.mono (by omega))
  exact below_setCells (by omega) _ _ (below_setCells (by omega) _ _ ((hw.alloc (by omega) _).alloc (by omega) _))
theorem two_new {V : World} {u v : Int} {T : TypeId} : Two (V.alloc (.cells #[.int .i64 u, .int .i64 v] T)) V.heap.size u v := ⟨by simp [go_sem], by simp [go_sem]⟩
theorem bo2 {w X : World} {n : Nat} {C S : List Value} {T : TypeId} (h : Bo1 w n C S X) : BoS w n X.heap.size C S pt0 ((X.alloc (.cells #[.int .i64 100000000, .int .i64 100000000] T)).alloc (.cells #[.int .i64 0, .int .i64 0] T)) := by
  obtain ⟨h1, h2, h3, h4, h5, h6, h7⟩ := h
  have s1 : (X.alloc (.cells #[.int .i64 100000000, .int .i64 100000000] T)).heap.size = X.heap.size + 1 := by simp
  have t0 := there_new X [.int .i64 100000000, .int .i64 100000000] T
  have t1 := there_new (X.alloc (.cells #[.int .i64 100000000, .int .i64 100000000] T)) [.int .i64 0, .int .i64 0] T
  have y := two_new (V := X.alloc (.cells #[.int .i64 100000000, .int .i64 100000000] T)) (u := 0) (v := 0) (T := T)
  rw [s1] at t1 y
  have x := (two_new (V := X) (u := 100000000) (v := 100000000) (T := T)).below (((Below.refl _ _).alloc (Nat.le_refl _) (.cells #[.int .i64 0, .int .i64 0] T))) (by simp)
  exact ⟨World.rangeAt_alloc (World.rangeAt_alloc h1 _) _, World.rangeAt_alloc (World.rangeAt_alloc h2 _) _, x, y, World.there_alloc t0 _, t1, World.there_alloc (World.there_alloc h3 _) _, World.there_alloc (World.there_alloc h4 _) _, h5, h6, by simp, (h7.alloc (by omega) _).alloc (by simp; omega) _⟩
set_option maxRecDepth 100000 in
set_option maxHeartbeats 4000000 in
theorem refBoth_any (m : Nat) (hm : m < 1024) (w : World) :
    Calls Tryz.prog 159 #[.int .i64 m] w fun e w' => e = .returned (.tuple #[.agg #[.int .i64 (atP m 11).a, .int .i64 (atP m 11).b], .agg #[.int .i64 (atP m 11).c, .int .i64 (atP m 11).d]]) ∧ Below w.heap.size w w' := by
  obtain ⟨⟨ea, eb, ec, ed⟩, he⟩ : ∃ q, Hid (atP m 11 = q) := ⟨_, Lib.hid rfl⟩
  rw [he.out]
  dsimp only
  obtain ⟨C, hC⟩ : ∃ C, Hid (cHV = C) := ⟨_, Lib.hid rfl⟩
  obtain ⟨S, hS⟩ : ∃ S, Hid (sHV = S) := ⟨_, Lib.hid rfl⟩
  have lC : Hid (C.toArray.size = 22) := Lib.hid (by rw [← hC.out]; rfl)
  have lS : Hid (S.toArray.size = 22) := Lib.hid (by rw [← hS.out]; rfl)
  have oC : Hid (∀ v ∈ C, v.oneCell' = true) := Lib.hid (by rw [← hC.out]; exact cHV_one)
  have oS : Hid (∀ v ∈ S, v.oneCell' = true) := Lib.hid (by rw [← hS.out]; exact sHV_one)
  have iC : Hid (((Tryz.prog).info? 209).map (·.size) = some C.toArray.size) := Lib.hid (by rw [lC.out]; kernel_rfl)
  have iS : Hid (((Tryz.prog).info? 209).map (·.size) = some S.toArray.size) := Lib.hid (by rw [lS.out]; kernel_rfl)
  go_enter Tryz.func159, Tryz.ntmps159
  go_upto_region 1 with (fail)
  go_upto_region 2 with (first
    | (go_at_call 177; refine (refHalves_is _ C S hC hS).mono ?_; rintro e V ⟨rfl, hbV⟩)
    | (with_reducible refine wpList_store_mid rfl 209 _ _ rfl V.heap.size 0 C.toArray rfl rfl (th22 rfl lC.out) iC.out (all_oneCell_toArray oC.out) ?_)
    | (with_reducible refine wpList_store_mid rfl 209 _ _ rfl (V.heap.size + 1) 0 S.toArray rfl rfl (th22b rfl lS.out) iS.out (all_oneCell_toArray oS.out) ?_))
  refine wp_world (Bo1 w V.heap.size C S) (bo1 rfl lC.out lS.out rfl (by simpa using hbV)) (fun X hX => ?_)
  have HX := Lib.hid hX
  clear hX hbV
  have vw := HX.out.nw
  have vx := HX.out.sz
  generalize V.heap.size = n at HX vw vx ⊢
  go_upto_region 3 with (fail)
  refine wp_world (BoS w n X.heap.size C S pt0) (bo2 HX.out) (fun Y hY => ?_)
  have HY := Lib.hid hY
  clear hY HX
  generalize X.heap.size = k at HY vx ⊢
  go_wp2_with fail
  go_loopw [8, 9] (fun v i wr => ∃ j : Nat, i = .int .i64 j ∧ v = .int .i64 ((2 ^ (11 - j) : Nat) : Int) ∧ 1 ≤ j ∧ j ≤ 11 ∧ Hid (BoS w n k C S (atP m j) wr)) (fun _ i _ => 11 - (intOf i).toNat)
  case atStart => exact ⟨1, rfl, rfl, by omega, by omega, Lib.hid (by rw [show atP m 1 = pt0 by rw [atP, if_neg (by rw [bit0 hm]; exact Bool.false_ne_true)]; rfl]; exact HY.out)⟩
  case round =>
    clear HY
    obtain ⟨j, rfl, rfl, j1, jl, HS⟩ := hrel
    have sz := HS.out.sz
    have nw := HS.out.nw
    have kn := HS.out.kn
    by_cases j10 : j ≤ 10
    · have ji : (j : Int) ≤ 10 := by omega
      have j5 : (j : Int) < 11 := by omega
      have j2 : (1 : Int) ≤ (j : Int) := by omega
      have j3 : (0 : Int) ≤ (j : Int) := by omega
      obtain ⟨P, hP⟩ : ∃ P : Nat, Hid (2 ^ (11 - j) = P) := ⟨_, Lib.hid rfl⟩
      obtain ⟨Q, hQ⟩ : ∃ Q : Nat, Hid (2 ^ (10 - j) = Q) := ⟨_, Lib.hid rfl⟩
      have pq : P = 2 * Q := by rw [← hP.out, ← hQ.out, show 11 - j = (10 - j) + 1 by omega, Nat.pow_succ, Nat.mul_comm]
      have q1 : 1 ≤ Q := by rw [← hQ.out]; exact Nat.one_le_two_pow
      have q2 : Q ≤ 512 := by rw [← hQ.out]; exact Nat.pow_le_pow_right (by omega) (show 10 - j ≤ 9 by omega)
      obtain ⟨u, hu⟩ : ∃ u : Nat, Hid (m / Q = u) := ⟨_, Lib.hid rfl⟩
      obtain ⟨bt, hb⟩ : ∃ b : Nat, Hid (u % 2 = b) := ⟨_, Lib.hid rfl⟩
      have ul : u ≤ 1023 := by rw [← hu.out]; have := Nat.div_le_self m Q; omega
      have bl : bt ≤ 1 := by rw [← hb.out]; omega
      have hbit : bitB m j = (bt == 1) := by unfold bitB; rw [hQ.out, hu.out, hb.out]
      rw [hP.out]
      have a1 : (P : Int) / 2 = (Q : Int) := by omega
      have a2 : (P : Int).tdiv 2 = (Q : Int) := by rw [Int.tdiv_eq_ediv_of_nonneg (by omega)]; exact a1
      have a3 : IntKind.i64.wrap (Q : Int) = (Q : Int) := IntWalk.i64_in _ (by omega)
      have a4 : (m : Int) / (Q : Int) = (u : Int) := by rw [← hu.out]; simp
      have a5 : (m : Int).tdiv (Q : Int) = (u : Int) := by rw [Int.tdiv_eq_ediv_of_nonneg (by omega)]; exact a4
      have a6 : IntKind.i64.wrap (u : Int) = (u : Int) := IntWalk.i64_in _ (by omega)
      have a7 : (u : Int) % 2 = (bt : Int) := by rw [← hb.out]; omega
      have a8 : (u : Int).tmod 2 = (bt : Int) := by rw [Int.tmod_eq_emod_of_nonneg (by omega)]; exact a7
      have a9 : IntKind.i64.wrap (bt : Int) = (bt : Int) := IntWalk.i64_in _ (by omega)
      have qz : (Q : Int) ≠ 0 := by omega
      have HQ2 : Hid (2 ^ (11 - (j + 1)) = Q) := Lib.hid (by rw [← hQ.out, show 11 - (j + 1) = 10 - j by omega])
      by_cases hb0 : bt = 0
      · subst hb0
        have HN : Hid (atP m (j + 1) = atP m j) := Lib.hid (by rw [atP, if_neg (by rw [hbit]; simp)])
        clear hbit hP hQ pq hu hb
        go_wp2
        go_roundw
        case rel => exact ⟨j + 1, by go_num, by rw [HQ2.out], by omega, by omega, Lib.hid (by rw [HN.out]; exact HS.out.below (by (repeat (first | (with_reducible refine Below.drew ?_) | (with_reducible refine below_drewN ?_ _) | (with_reducible refine Below.alloc ?_ (by first | omega | (simp; done) | (simp; omega) | (simp at *; omega)) _) | (with_reducible refine Below.setCell ?_ (by first | omega | (simp; done) | (simp; omega) | (simp at *; omega)) _) | (with_reducible exact Below.refl _ _) | (with_reducible assumption) | (with_reducible refine Below.trans ?_ (Below.mono (by assumption) (by first | omega | (simp; done) | (simp; omega) | (simp at *; omega))))))))⟩
        case measure => (simp [intOf]) <;> omega
      · have hb1 : bt = 1 := by omega
        subst hb1
        obtain ⟨⟨qa, qb, qc, qd⟩, hq⟩ : ∃ q, Hid (hv j = q) := ⟨_, Lib.hid rfl⟩
        obtain ⟨⟨pa, pb, pc, pd⟩, hp⟩ : ∃ q, Hid (atP m j = q) := ⟨_, Lib.hid rfl⟩
        have kq : PtOk ⟨qa, qb, qc, qd⟩ := by rw [← hq.out]; exact hv_ok j
        have kp : PtOk ⟨pa, pb, pc, pd⟩ := by rw [← hp.out]; exact atP_ok hm (by omega)
        obtain ⟨z1, y1⟩ : ∃ z, Hid (dnO (pa * qa - pd * qd) = z) := ⟨_, Lib.hid rfl⟩
        obtain ⟨z2, y2⟩ : ∃ z, Hid (upO (pb * qb - pc * qc) = z) := ⟨_, Lib.hid rfl⟩
        obtain ⟨z3, y3⟩ : ∃ z, Hid (dnO (pc * qa + pa * qc) = z) := ⟨_, Lib.hid rfl⟩
        obtain ⟨z4, y4⟩ : ∃ z, Hid (upO (pd * qb + pb * qd) = z) := ⟨_, Lib.hid rfl⟩
        obtain ⟨x1, e1⟩ : ∃ x, max 0 z1 = x := ⟨_, rfl⟩
        obtain ⟨x2, e2⟩ : ∃ x, min 100000000 z4 = x := ⟨_, rfl⟩
        have HN : Hid (atP m (j + 1) = ⟨x1, z2, z3, x2⟩) := Lib.hid (by
          rw [atP, if_pos (by rw [hbit]; rfl), hp.out, hq.out]; unfold trn; dsimp only
          rw [y1.out, y2.out, y3.out, y4.out, e1, e2])
        have E1 := Lib.hid e1
        have E2 := Lib.hid e2
        have hs1 := HS.out.x
        have hs2 := HS.out.y
        have hv1 := hv_at hC hS HS.out (show j < 11 by omega)
        rw [hp.out] at hs1 hs2
        rw [hq.out] at hv1
        dsimp only at hs1 hs2 hv1
        obtain ⟨c0, c1⟩ := hs1
        obtain ⟨c2, c3⟩ := hs2
        obtain ⟨d0, d1, d2, d3⟩ := hv1
        obtain ⟨p1, p2, p3, p4, p5, p6⟩ := kp
        obtain ⟨w1, w2, w3, w4, w5, w6⟩ := kq
        dsimp only at p1 p2 p3 p4 p5 p6 w1 w2 w3 w4 w5 w6
        obtain ⟨m1, h1, m10, m11, m12, m13⟩ := mul8 (x := pa) (y := qa) (by omega) (by omega) (by omega) (by omega)
        obtain ⟨m2, h2, m20, m21, m22, m23⟩ := mul8 (x := pd) (y := qd) (by omega) (by omega) (by omega) (by omega)
        obtain ⟨m3, h3, m30, m31, m32, m33⟩ := mul8 (x := pb) (y := qb) (by omega) (by omega) (by omega) (by omega)
        obtain ⟨m4, h4, m40, m41, m42, m43⟩ := mul8 (x := pc) (y := qc) (by omega) (by omega) (by omega) (by omega)
        obtain ⟨m5, h5, m50, m51, m52, m53⟩ := mul8 (x := pc) (y := qa) (by omega) (by omega) (by omega) (by omega)
        obtain ⟨m6, h6, m60, m61, m62, m63⟩ := mul8 (x := pa) (y := qc) (by omega) (by omega) (by omega) (by omega)
        obtain ⟨m7, h7, m70, m71, m72, m73⟩ := mul8 (x := pd) (y := qb) (by omega) (by omega) (by omega) (by omega)
        obtain ⟨m8, h8, m80, m81, m82, m83⟩ := mul8 (x := pb) (y := qd) (by omega) (by omega) (by omega) (by omega)
        rw [m12, m22] at y1
        rw [m32, m42] at y2
        rw [m52, m62] at y3
        rw [m72, m82] at y4
        have s1 : IntKind.i64.wrap (m1 - m2) = m1 - m2 := IntWalk.i64_in _ (by omega)
        have s2 : IntKind.i64.wrap (m3 - m4) = m3 - m4 := IntWalk.i64_in _ (by omega)
        have s3 : IntKind.i64.wrap (m5 + m6) = m5 + m6 := IntWalk.i64_in _ (by omega)
        have s4 : IntKind.i64.wrap (m7 + m8) = m7 + m8 := IntWalk.i64_in _ (by omega)
        have o1 : n < wr.heap.size := by omega
        have o2 : n + 1 < wr.heap.size := by omega
        have o3 : k < wr.heap.size := by omega
        have o4 : k + 1 < wr.heap.size := by omega
        have HSp : Hid (BoS w n k C S ⟨pa, pb, pc, pd⟩ wr) := Lib.hid (by rw [← hp.out]; exact HS.out)
        have hvj := Lib.hid hq
        clear hbit hP hQ pq hu hb hp hq e1 e2 m12 m22 m32 m42 m52 m62 m72 m82 h1 h2 h3 h4 h5 h6 h7 h8 p1 p2 p3 p4 p5 p6 w1 w2 w3 w4 w5 w6
        go_upto_region 9 with (fail)
        go_cut [10] from 18 to 98 (fun s10 wx => s10 = .pointer (some ⟨wr.heap.size, 0, none⟩) ∧ wx.heap.size = wr.heap.size + 1 ∧ Two wx wr.heap.size x1 z2 ∧ Below wr.heap.size wr wx)
        case first =>
          refine wp_region_held_drew (S := (fun w' => w'.cell? ⟨k, 0, none⟩ = some (.int .i64 pa) ∧ w'.cell? ⟨k, 1, none⟩ = some (.int .i64 pb) ∧ w'.cell? ⟨k + 1, 0, none⟩ = some (.int .i64 pc) ∧ w'.cell? ⟨k + 1, 1, none⟩ = some (.int .i64 pd) ∧ w'.cell? ⟨n, j * 2, none⟩ = some (.int .i64 qa) ∧ w'.cell? ⟨n, j * 2 + 1, none⟩ = some (.int .i64 qb) ∧ w'.cell? ⟨n + 1, j * 2, none⟩ = some (.int .i64 qc) ∧ w'.cell? ⟨n + 1, j * 2 + 1, none⟩ = some (.int .i64 qd))) (by kernel_rfl) (by simp [go_sem, World.cell?_alloc_past, *]) (fun hHeld => ?_)
          refine tkH 0 ⟨some 29, _, _, _, _, _⟩ ?_ rfl ?_ (by assumption) ?_
          rotate_left
          · (intro w hSw; (try dsimp only at hSw); go_simp; all_goals with_reducible rfl)
          try simp only [Act.put, sA, sB, sC]
          refine tkH 1 ⟨some 30, _, _, _, _, _⟩ ?_ rfl ?_ (by assumption) ?_
          rotate_left
          · (intro w hSw; (try dsimp only at hSw); go_simp; all_goals with_reducible rfl)
          try simp only [Act.put, sA, sB, sC]
          refine tkH 2 ⟨some 31, _, _, _, _, _⟩ ?_ rfl ?_ (by assumption) ?_
          rotate_left
          · (intro w hSw; (try dsimp only at hSw); go_simp; all_goals with_reducible rfl)
          try simp only [Act.put, sA, sB, sC]
          refine tkH 3 ⟨some 32, _, _, _, _, _⟩ ?_ rfl ?_ (by assumption) ?_
          rotate_left
          · (intro w hSw; (try dsimp only at hSw); go_simp; all_goals with_reducible rfl)
          try simp only [Act.put, sA, sB, sC]
          refine tkH 4 ⟨some 33, _, _, _, _, _⟩ ?_ rfl ?_ (by assumption) ?_
          rotate_left
          · (intro w hSw; (try dsimp only at hSw); go_simp; all_goals with_reducible rfl)
          try simp only [Act.put, sA, sB, sC]
          refine tkH 5 ⟨some 34, _, _, _, _, _⟩ ?_ rfl ?_ (by assumption) ?_
          rotate_left
          · (intro w hSw; (try dsimp only at hSw); go_simp; all_goals with_reducible rfl)
          try simp only [Act.put, sA, sB, sC]
          refine tkH 6 ⟨some 35, _, _, _, _, _⟩ ?_ rfl ?_ (by assumption) ?_
          rotate_left
          · (intro w hSw; (try dsimp only at hSw); go_simp; all_goals with_reducible rfl)
          try simp only [Act.put, sA, sB, sC]
          refine tkH 7 ⟨some 36, _, _, _, _, _⟩ ?_ rfl ?_ (by assumption) ?_
          rotate_left
          · (intro w hSw; (try dsimp only at hSw); go_simp; all_goals with_reducible rfl)
          try simp only [Act.put, sA, sB, sC]
          refine tkH 8 ⟨some 37, _, _, _, _, _⟩ ?_ rfl ?_ (by assumption) ?_
          rotate_left
          · (intro w hSw; (try dsimp only at hSw); go_simp; all_goals with_reducible rfl)
          try simp only [Act.put, sA, sB, sC]
          refine tkH 9 ⟨some 38, _, _, _, _, _⟩ ?_ rfl ?_ (by assumption) ?_
          rotate_left
          · (intro w hSw; (try dsimp only at hSw); go_simp; all_goals with_reducible rfl)
          try simp only [Act.put, sA, sB, sC]
          refine tkH 10 ⟨some 39, _, _, _, _, _⟩ ?_ rfl ?_ (by assumption) ?_
          rotate_left
          · (intro w hSw; (try dsimp only at hSw); go_simp; all_goals with_reducible rfl)
          try simp only [Act.put, sA, sB, sC]
          refine tkH 11 ⟨some 40, _, _, _, _, _⟩ ?_ rfl ?_ (by assumption) ?_
          rotate_left
          · (intro w hSw; (try dsimp only at hSw); go_simp; all_goals with_reducible rfl)
          try simp only [Act.put, sA, sB, sC]
          refine tkH 12 ⟨some 41, _, _, _, _, _⟩ ?_ rfl ?_ (by assumption) ?_
          rotate_left
          · (intro w hSw; (try dsimp only at hSw); go_simp; all_goals with_reducible rfl)
          try simp only [Act.put, sA, sB, sC]
          refine tkH 13 ⟨some 42, _, _, _, _, _⟩ ?_ rfl ?_ (by assumption) ?_
          rotate_left
          · (intro w hSw; (try dsimp only at hSw); go_simp; all_goals with_reducible rfl)
          try simp only [Act.put, sA, sB, sC]
          refine tkH 14 ⟨some 43, _, _, _, _, _⟩ ?_ rfl ?_ (by assumption) ?_
          rotate_left
          · (intro w hSw; (try dsimp only at hSw); go_simp; all_goals with_reducible rfl)
          try simp only [Act.put, sA, sB, sC]
          refine tkH 17 ⟨some 46, _, _, _, _, _⟩ ?_ rfl ?_ (by assumption) ?_
          rotate_left
          · (intro w hSw; (try dsimp only at hSw); go_simp; all_goals with_reducible rfl)
          try simp only [Act.put, sA, sB, sC]
          refine tkH 18 ⟨some 47, _, _, _, _, _⟩ ?_ rfl ?_ (by assumption) ?_
          rotate_left
          · (intro w hSw; (try dsimp only at hSw); go_simp; all_goals with_reducible rfl)
          try simp only [Act.put, sA, sB, sC]
          refine tkH 19 ⟨some 48, _, _, _, _, _⟩ ?_ rfl ?_ (by assumption) ?_
          rotate_left
          · (intro w hSw; (try dsimp only at hSw); go_simp; all_goals with_reducible rfl)
          try simp only [Act.put, sA, sB, sC]
          refine tkH 20 ⟨some 49, _, _, _, _, _⟩ ?_ rfl ?_ (by assumption) ?_
          rotate_left
          · (intro w hSw; (try dsimp only at hSw); go_simp; all_goals with_reducible rfl)
          try simp only [Act.put, sA, sB, sC]
          refine tkH 21 ⟨some 50, _, _, _, _, _⟩ ?_ rfl ?_ (by assumption) ?_
          rotate_left
          · (intro w hSw; (try dsimp only at hSw); go_simp; all_goals with_reducible rfl)
          try simp only [Act.put, sA, sB, sC]
          refine tkH 22 ⟨some 51, _, _, _, _, _⟩ ?_ rfl ?_ (by assumption) ?_
          rotate_left
          · (intro w hSw; (try dsimp only at hSw); go_simp; all_goals with_reducible rfl)
          try simp only [Act.put, sA, sB, sC]
          refine tkH 23 ⟨some 52, _, _, _, _, _⟩ ?_ rfl ?_ (by assumption) ?_
          rotate_left
          · (intro w hSw; (try dsimp only at hSw); go_simp; all_goals with_reducible rfl)
          try simp only [Act.put, sA, sB, sC]
          refine tkH 24 ⟨some 53, _, _, _, _, _⟩ ?_ rfl ?_ (by assumption) ?_
          rotate_left
          · (intro w hSw; (try dsimp only at hSw); go_simp; all_goals with_reducible rfl)
          try simp only [Act.put, sA, sB, sC]
          refine tkH 25 ⟨some 54, _, _, _, _, _⟩ ?_ rfl ?_ (by assumption) ?_
          rotate_left
          · (intro w hSw; (try dsimp only at hSw); go_simp; all_goals with_reducible rfl)
          try simp only [Act.put, sA, sB, sC]
          refine tkH 26 ⟨some 55, _, _, _, _, _⟩ ?_ rfl ?_ (by assumption) ?_
          rotate_left
          · (intro w hSw; (try dsimp only at hSw); go_simp; all_goals with_reducible rfl)
          try simp only [Act.put, sA, sB, sC]
          refine tkH 27 ⟨some 56, _, _, _, _, _⟩ ?_ rfl ?_ (by assumption) ?_
          rotate_left
          · (intro w hSw; (try dsimp only at hSw); go_simp; all_goals with_reducible rfl)
          try simp only [Act.put, sA, sB, sC]
          refine tkH 28 ⟨some 57, _, _, _, _, _⟩ ?_ rfl ?_ (by assumption) ?_
          rotate_left
          · (intro w hSw; (try dsimp only at hSw); go_simp; all_goals with_reducible rfl)
          try simp only [Act.put, sA, sB, sC]
          refine tkH 29 ⟨some 58, _, _, _, _, _⟩ ?_ rfl ?_ (by assumption) ?_
          rotate_left
          · (intro w hSw; (try dsimp only at hSw); go_simp; all_goals with_reducible rfl)
          try simp only [Act.put, sA, sB, sC]
          refine tkH 30 ⟨some 59, _, _, _, _, _⟩ ?_ rfl ?_ (by assumption) ?_
          rotate_left
          · (intro w hSw; (try dsimp only at hSw); go_simp; all_goals with_reducible rfl)
          try simp only [Act.put, sA, sB, sC]
          refine tkH 31 ⟨some 60, _, _, _, _, _⟩ ?_ rfl ?_ (by assumption) ?_
          rotate_left
          · (intro w hSw; (try dsimp only at hSw); go_simp; all_goals with_reducible rfl)
          try simp only [Act.put, sA, sB, sC]
          refine wpAnyH_ready (rs := [15, 34]) (by kernel_rfl) (by simp) ?_
          refine AllReadyH.cons rfl (fun K hK => ?_) (AllReadyH.cons rfl (fun K hK => ?_) (AllReadyH.nil))
          · skip
            go_simp
            refine (bFl_is (m1 - m2) z1 _ (by omega) (by omega) y1).mono ?_
            rintro e w' ⟨rfl, rfl⟩
            go_wp2_with fail
            refine hK.out _ _ (by simp [go_sem, World.cell?_alloc_past, *]) (fun hHeld => ?_)
            clear hK K
            try simp only [Act.put, sA, sB, sC]
            refine tkH 16 ⟨some 45, _, _, _, _, _⟩ ?_ rfl ?_ (by assumption) ?_
            rotate_left
            · (intro w hSw; (try dsimp only at hSw); go_simp; all_goals with_reducible rfl)
            try simp only [Act.put, sA, sB, sC]
            refine wpAnyH_ready (rs := [32, 34]) (by kernel_rfl) (by simp) ?_
            refine AllReadyH.cons rfl (fun K hK => ?_) (AllReadyH.cons rfl (fun K hK => ?_) (AllReadyH.nil))
            · skip
              go_simp
              refine (bCe_is (m3 - m4) z2 _ (by omega) (by omega) y2).mono ?_
              rintro e w' ⟨rfl, rfl⟩
              go_wp2_with fail
              refine hK.out _ _ (by simp [go_sem, World.cell?_alloc_past, *]) (fun hHeld => ?_)
              clear hK K
              try simp only [Act.put, sA, sB, sC]
              refine tkH 33 ⟨some 62, _, _, _, _, _⟩ ?_ rfl ?_ (by assumption) ?_
              rotate_left
              · (intro w hSw; (try dsimp only at hSw); go_simp; all_goals with_reducible rfl)
              try simp only [Act.put, sA, sB, sC]
              refine wpAnyH_ready (rs := [34]) (by kernel_rfl) (by simp) ?_
              refine AllReadyH.cons rfl (fun K hK => ?_) (AllReadyH.nil)
              go_simp
              go_wp2_with fail
              refine hK.out _ _ (by simp [go_sem, World.cell?_alloc_past, *]) (fun hHeld => ?_)
              clear hK K
              try simp only [Act.put, sA, sB, sC]
              refine wpAnyH_ready (rs := [35]) (by kernel_rfl) (by simp) ?_
              refine AllReadyH.cons rfl (fun K hK => ?_) (AllReadyH.nil)
              go_simp
              go_wp2_with fail
              refine hK.out _ _ (by simp [go_sem, World.cell?_alloc_past, *]) (fun hHeld => ?_)
              clear hK K
              try simp only [Act.put, sA, sB, sC]
              refine wpAnyH_done (by kernel_rfl) ?_ _
              go_wp2_with fail
              go_meet
              have E1' := E1.out
              refine ⟨rfl, by simp, ⟨?_, ?_⟩, (by (repeat (first | (with_reducible refine Below.drew ?_) | (with_reducible refine below_drewN ?_ _) | (with_reducible refine Below.alloc ?_ (by first | omega | (simp; done) | (simp; omega) | (simp at *; omega)) _) | (with_reducible refine Below.setCell ?_ (by first | omega | (simp; done) | (simp; omega) | (simp at *; omega)) _) | (with_reducible exact Below.refl _ _) | (with_reducible assumption) | (with_reducible refine Below.trans ?_ (Below.mono (by assumption) (by first | omega | (simp; done) | (simp; omega) | (simp at *; omega)))))))⟩ <;> (simp [go_sem, *] <;> omega)
            · skip
              go_simp
              go_wp2_with fail
              refine hK.out _ _ (by simp [go_sem, World.cell?_alloc_past, *]) (fun hHeld => ?_)
              clear hK K
              try simp only [Act.put, sA, sB, sC]
              refine wpAnyH_ready (rs := [32]) (by kernel_rfl) (by simp) ?_
              refine AllReadyH.cons rfl (fun K hK => ?_) (AllReadyH.nil)
              go_simp
              refine (bCe_is (m3 - m4) z2 _ (by omega) (by omega) y2).mono ?_
              rintro e w' ⟨rfl, rfl⟩
              go_wp2_with fail
              refine hK.out _ _ (by simp [go_sem, World.cell?_alloc_past, *]) (fun hHeld => ?_)
              clear hK K
              try simp only [Act.put, sA, sB, sC]
              refine tkH 33 ⟨some 62, _, _, _, _, _⟩ ?_ rfl ?_ (by assumption) ?_
              rotate_left
              · (intro w hSw; (try dsimp only at hSw); go_simp; all_goals with_reducible rfl)
              try simp only [Act.put, sA, sB, sC]
              refine wpAnyH_ready (rs := [35]) (by kernel_rfl) (by simp) ?_
              refine AllReadyH.cons rfl (fun K hK => ?_) (AllReadyH.nil)
              go_simp
              go_wp2_with fail
              refine hK.out _ _ (by simp [go_sem, World.cell?_alloc_past, *]) (fun hHeld => ?_)
              clear hK K
              try simp only [Act.put, sA, sB, sC]
              refine wpAnyH_done (by kernel_rfl) ?_ _
              go_wp2_with fail
              go_meet
              have E1' := E1.out
              refine ⟨rfl, by simp, ⟨?_, ?_⟩, (by (repeat (first | (with_reducible refine Below.drew ?_) | (with_reducible refine below_drewN ?_ _) | (with_reducible refine Below.alloc ?_ (by first | omega | (simp; done) | (simp; omega) | (simp at *; omega)) _) | (with_reducible refine Below.setCell ?_ (by first | omega | (simp; done) | (simp; omega) | (simp at *; omega)) _) | (with_reducible exact Below.refl _ _) | (with_reducible assumption) | (with_reducible refine Below.trans ?_ (Below.mono (by assumption) (by first | omega | (simp; done) | (simp; omega) | (simp at *; omega)))))))⟩ <;> (simp [go_sem, *] <;> omega)
          · skip
            go_simp
            go_wp2_with fail
            refine hK.out _ _ (by simp [go_sem, World.cell?_alloc_past, *]) (fun hHeld => ?_)
            clear hK K
            try simp only [Act.put, sA, sB, sC]
            refine wpAnyH_ready (rs := [15]) (by kernel_rfl) (by simp) ?_
            refine AllReadyH.cons rfl (fun K hK => ?_) (AllReadyH.nil)
            go_simp
            refine (bFl_is (m1 - m2) z1 _ (by omega) (by omega) y1).mono ?_
            rintro e w' ⟨rfl, rfl⟩
            go_wp2_with fail
            refine hK.out _ _ (by simp [go_sem, World.cell?_alloc_past, *]) (fun hHeld => ?_)
            clear hK K
            try simp only [Act.put, sA, sB, sC]
            refine tkH 16 ⟨some 45, _, _, _, _, _⟩ ?_ rfl ?_ (by assumption) ?_
            rotate_left
            · (intro w hSw; (try dsimp only at hSw); go_simp; all_goals with_reducible rfl)
            try simp only [Act.put, sA, sB, sC]
            refine wpAnyH_ready (rs := [32]) (by kernel_rfl) (by simp) ?_
            refine AllReadyH.cons rfl (fun K hK => ?_) (AllReadyH.nil)
            go_simp
            refine (bCe_is (m3 - m4) z2 _ (by omega) (by omega) y2).mono ?_
            rintro e w' ⟨rfl, rfl⟩
            go_wp2_with fail
            refine hK.out _ _ (by simp [go_sem, World.cell?_alloc_past, *]) (fun hHeld => ?_)
            clear hK K
            try simp only [Act.put, sA, sB, sC]
            refine tkH 33 ⟨some 62, _, _, _, _, _⟩ ?_ rfl ?_ (by assumption) ?_
            rotate_left
            · (intro w hSw; (try dsimp only at hSw); go_simp; all_goals with_reducible rfl)
            try simp only [Act.put, sA, sB, sC]
            refine wpAnyH_ready (rs := [35]) (by kernel_rfl) (by simp) ?_
            refine AllReadyH.cons rfl (fun K hK => ?_) (AllReadyH.nil)
            go_simp
            go_wp2_with fail
            refine hK.out _ _ (by simp [go_sem, World.cell?_alloc_past, *]) (fun hHeld => ?_)
            clear hK K
            try simp only [Act.put, sA, sB, sC]
            refine wpAnyH_done (by kernel_rfl) ?_ _
            go_wp2_with fail
            go_meet
            have E1' := E1.out
            refine ⟨rfl, by simp, ⟨?_, ?_⟩, (by (repeat (first | (with_reducible refine Below.drew ?_) | (with_reducible refine below_drewN ?_ _) | (with_reducible refine Below.alloc ?_ (by first | omega | (simp; done) | (simp; omega) | (simp at *; omega)) _) | (with_reducible refine Below.setCell ?_ (by first | omega | (simp; done) | (simp; omega) | (simp at *; omega)) _) | (with_reducible exact Below.refl _ _) | (with_reducible assumption) | (with_reducible refine Below.trans ?_ (Below.mono (by assumption) (by first | omega | (simp; done) | (simp; omega) | (simp at *; omega)))))))⟩ <;> (simp [go_sem, *] <;> omega)
        case rest =>
          obtain ⟨rfl, hsz, hT, hB⟩ := hcut
          have HS1 := Lib.hid (HSp.out.below hB)
          have hT1 := Lib.hid hT
          have hsz2 : wr.heap.size < wc.heap.size := by omega
          have hs1 := HS1.out.x
          have hs2 := HS1.out.y
          have hv1 := hv_at hC hS HS1.out (show j < 11 by omega)
          rw [hvj.out.out] at hv1
          dsimp only at hs1 hs2 hv1
          clear c0 c1 c2 c3 d0 d1 d2 d3 hT hsz hB
          obtain ⟨c0, c1⟩ := hs1
          obtain ⟨c2, c3⟩ := hs2
          obtain ⟨d0, d1, d2, d3⟩ := hv1
          have g1 : n < wc.heap.size := by omega
          have g2 : n + 1 < wc.heap.size := by omega
          have g3 : k < wc.heap.size := by omega
          have g4 : k + 1 < wc.heap.size := by omega
          go_upto_region 10 with (fail)
          go_cut [11] from 18 to 98 (fun s11 wx => ∃ b : Nat, s11 = .pointer (some ⟨b, 0, none⟩) ∧ wr.heap.size < b ∧ b < wx.heap.size ∧ Two wx b z3 x2 ∧ Two wx wr.heap.size x1 z2 ∧ BoS w n k C S ⟨pa, pb, pc, pd⟩ wx)
          case first =>
            refine wp_region_held_drew (S := (fun w' => w'.cell? ⟨k, 0, none⟩ = some (.int .i64 pa) ∧ w'.cell? ⟨k, 1, none⟩ = some (.int .i64 pb) ∧ w'.cell? ⟨k + 1, 0, none⟩ = some (.int .i64 pc) ∧ w'.cell? ⟨k + 1, 1, none⟩ = some (.int .i64 pd) ∧ w'.cell? ⟨n, j * 2, none⟩ = some (.int .i64 qa) ∧ w'.cell? ⟨n, j * 2 + 1, none⟩ = some (.int .i64 qb) ∧ w'.cell? ⟨n + 1, j * 2, none⟩ = some (.int .i64 qc) ∧ w'.cell? ⟨n + 1, j * 2 + 1, none⟩ = some (.int .i64 qd))) (by kernel_rfl) (by simp [go_sem, World.cell?_alloc_past, *]) (fun hHeld => ?_)
            refine tkH 0 ⟨some 63, _, _, _, _, _⟩ ?_ rfl ?_ (by assumption) ?_
            rotate_left
            · (intro w hSw; (try dsimp only at hSw); go_simp; all_goals with_reducible rfl)
            try simp only [Act.put, sA, sB, sC]
            refine tkH 1 ⟨some 64, _, _, _, _, _⟩ ?_ rfl ?_ (by assumption) ?_
            rotate_left
            · (intro w hSw; (try dsimp only at hSw); go_simp; all_goals with_reducible rfl)
            try simp only [Act.put, sA, sB, sC]
            refine tkH 2 ⟨some 65, _, _, _, _, _⟩ ?_ rfl ?_ (by assumption) ?_
            rotate_left
            · (intro w hSw; (try dsimp only at hSw); go_simp; all_goals with_reducible rfl)
            try simp only [Act.put, sA, sB, sC]
            refine tkH 3 ⟨some 66, _, _, _, _, _⟩ ?_ rfl ?_ (by assumption) ?_
            rotate_left
            · (intro w hSw; (try dsimp only at hSw); go_simp; all_goals with_reducible rfl)
            try simp only [Act.put, sA, sB, sC]
            refine tkH 4 ⟨some 67, _, _, _, _, _⟩ ?_ rfl ?_ (by assumption) ?_
            rotate_left
            · (intro w hSw; (try dsimp only at hSw); go_simp; all_goals with_reducible rfl)
            try simp only [Act.put, sA, sB, sC]
            refine tkH 5 ⟨some 68, _, _, _, _, _⟩ ?_ rfl ?_ (by assumption) ?_
            rotate_left
            · (intro w hSw; (try dsimp only at hSw); go_simp; all_goals with_reducible rfl)
            try simp only [Act.put, sA, sB, sC]
            refine tkH 6 ⟨some 69, _, _, _, _, _⟩ ?_ rfl ?_ (by assumption) ?_
            rotate_left
            · (intro w hSw; (try dsimp only at hSw); go_simp; all_goals with_reducible rfl)
            try simp only [Act.put, sA, sB, sC]
            refine tkH 7 ⟨some 70, _, _, _, _, _⟩ ?_ rfl ?_ (by assumption) ?_
            rotate_left
            · (intro w hSw; (try dsimp only at hSw); go_simp; all_goals with_reducible rfl)
            try simp only [Act.put, sA, sB, sC]
            refine tkH 8 ⟨some 71, _, _, _, _, _⟩ ?_ rfl ?_ (by assumption) ?_
            rotate_left
            · (intro w hSw; (try dsimp only at hSw); go_simp; all_goals with_reducible rfl)
            try simp only [Act.put, sA, sB, sC]
            refine tkH 9 ⟨some 72, _, _, _, _, _⟩ ?_ rfl ?_ (by assumption) ?_
            rotate_left
            · (intro w hSw; (try dsimp only at hSw); go_simp; all_goals with_reducible rfl)
            try simp only [Act.put, sA, sB, sC]
            refine tkH 10 ⟨some 73, _, _, _, _, _⟩ ?_ rfl ?_ (by assumption) ?_
            rotate_left
            · (intro w hSw; (try dsimp only at hSw); go_simp; all_goals with_reducible rfl)
            try simp only [Act.put, sA, sB, sC]
            refine tkH 11 ⟨some 74, _, _, _, _, _⟩ ?_ rfl ?_ (by assumption) ?_
            rotate_left
            · (intro w hSw; (try dsimp only at hSw); go_simp; all_goals with_reducible rfl)
            try simp only [Act.put, sA, sB, sC]
            refine tkH 12 ⟨some 75, _, _, _, _, _⟩ ?_ rfl ?_ (by assumption) ?_
            rotate_left
            · (intro w hSw; (try dsimp only at hSw); go_simp; all_goals with_reducible rfl)
            try simp only [Act.put, sA, sB, sC]
            refine tkH 13 ⟨some 76, _, _, _, _, _⟩ ?_ rfl ?_ (by assumption) ?_
            rotate_left
            · (intro w hSw; (try dsimp only at hSw); go_simp; all_goals with_reducible rfl)
            try simp only [Act.put, sA, sB, sC]
            refine tkH 14 ⟨some 77, _, _, _, _, _⟩ ?_ rfl ?_ (by assumption) ?_
            rotate_left
            · (intro w hSw; (try dsimp only at hSw); go_simp; all_goals with_reducible rfl)
            try simp only [Act.put, sA, sB, sC]
            refine tkH 16 ⟨some 79, _, _, _, _, _⟩ ?_ rfl ?_ (by assumption) ?_
            rotate_left
            · (intro w hSw; (try dsimp only at hSw); go_simp; all_goals with_reducible rfl)
            try simp only [Act.put, sA, sB, sC]
            refine tkH 17 ⟨some 80, _, _, _, _, _⟩ ?_ rfl ?_ (by assumption) ?_
            rotate_left
            · (intro w hSw; (try dsimp only at hSw); go_simp; all_goals with_reducible rfl)
            try simp only [Act.put, sA, sB, sC]
            refine tkH 18 ⟨some 81, _, _, _, _, _⟩ ?_ rfl ?_ (by assumption) ?_
            rotate_left
            · (intro w hSw; (try dsimp only at hSw); go_simp; all_goals with_reducible rfl)
            try simp only [Act.put, sA, sB, sC]
            refine tkH 19 ⟨some 82, _, _, _, _, _⟩ ?_ rfl ?_ (by assumption) ?_
            rotate_left
            · (intro w hSw; (try dsimp only at hSw); go_simp; all_goals with_reducible rfl)
            try simp only [Act.put, sA, sB, sC]
            refine tkH 20 ⟨some 83, _, _, _, _, _⟩ ?_ rfl ?_ (by assumption) ?_
            rotate_left
            · (intro w hSw; (try dsimp only at hSw); go_simp; all_goals with_reducible rfl)
            try simp only [Act.put, sA, sB, sC]
            refine tkH 21 ⟨some 84, _, _, _, _, _⟩ ?_ rfl ?_ (by assumption) ?_
            rotate_left
            · (intro w hSw; (try dsimp only at hSw); go_simp; all_goals with_reducible rfl)
            try simp only [Act.put, sA, sB, sC]
            refine tkH 22 ⟨some 85, _, _, _, _, _⟩ ?_ rfl ?_ (by assumption) ?_
            rotate_left
            · (intro w hSw; (try dsimp only at hSw); go_simp; all_goals with_reducible rfl)
            try simp only [Act.put, sA, sB, sC]
            refine tkH 23 ⟨some 86, _, _, _, _, _⟩ ?_ rfl ?_ (by assumption) ?_
            rotate_left
            · (intro w hSw; (try dsimp only at hSw); go_simp; all_goals with_reducible rfl)
            try simp only [Act.put, sA, sB, sC]
            refine tkH 24 ⟨some 87, _, _, _, _, _⟩ ?_ rfl ?_ (by assumption) ?_
            rotate_left
            · (intro w hSw; (try dsimp only at hSw); go_simp; all_goals with_reducible rfl)
            try simp only [Act.put, sA, sB, sC]
            refine tkH 25 ⟨some 88, _, _, _, _, _⟩ ?_ rfl ?_ (by assumption) ?_
            rotate_left
            · (intro w hSw; (try dsimp only at hSw); go_simp; all_goals with_reducible rfl)
            try simp only [Act.put, sA, sB, sC]
            refine tkH 26 ⟨some 89, _, _, _, _, _⟩ ?_ rfl ?_ (by assumption) ?_
            rotate_left
            · (intro w hSw; (try dsimp only at hSw); go_simp; all_goals with_reducible rfl)
            try simp only [Act.put, sA, sB, sC]
            refine tkH 27 ⟨some 90, _, _, _, _, _⟩ ?_ rfl ?_ (by assumption) ?_
            rotate_left
            · (intro w hSw; (try dsimp only at hSw); go_simp; all_goals with_reducible rfl)
            try simp only [Act.put, sA, sB, sC]
            refine tkH 28 ⟨some 91, _, _, _, _, _⟩ ?_ rfl ?_ (by assumption) ?_
            rotate_left
            · (intro w hSw; (try dsimp only at hSw); go_simp; all_goals with_reducible rfl)
            try simp only [Act.put, sA, sB, sC]
            refine tkH 29 ⟨some 92, _, _, _, _, _⟩ ?_ rfl ?_ (by assumption) ?_
            rotate_left
            · (intro w hSw; (try dsimp only at hSw); go_simp; all_goals with_reducible rfl)
            try simp only [Act.put, sA, sB, sC]
            refine tkH 30 ⟨some 93, _, _, _, _, _⟩ ?_ rfl ?_ (by assumption) ?_
            rotate_left
            · (intro w hSw; (try dsimp only at hSw); go_simp; all_goals with_reducible rfl)
            try simp only [Act.put, sA, sB, sC]
            refine wpAnyH_ready (rs := [15, 34]) (by kernel_rfl) (by simp) ?_
            refine AllReadyH.cons rfl (fun K hK => ?_) (AllReadyH.cons rfl (fun K hK => ?_) (AllReadyH.nil))
            · skip
              go_simp
              refine (bFl_is (m5 + m6) z3 _ (by omega) (by omega) y3).mono ?_
              rintro e w' ⟨rfl, rfl⟩
              go_wp2_with fail
              refine hK.out _ _ (by simp [go_sem, World.cell?_alloc_past, *]) (fun hHeld => ?_)
              clear hK K
              try simp only [Act.put, sA, sB, sC]
              refine wpAnyH_ready (rs := [31, 34]) (by kernel_rfl) (by simp) ?_
              refine AllReadyH.cons rfl (fun K hK => ?_) (AllReadyH.cons rfl (fun K hK => ?_) (AllReadyH.nil))
              · skip
                go_simp
                refine (bCe_is (m7 + m8) z4 _ (by omega) (by omega) y4).mono ?_
                rintro e w' ⟨rfl, rfl⟩
                go_wp2_with fail
                refine hK.out _ _ (by simp [go_sem, World.cell?_alloc_past, *]) (fun hHeld => ?_)
                clear hK K
                try simp only [Act.put, sA, sB, sC]
                refine tkH 32 ⟨some 95, _, _, _, _, _⟩ ?_ rfl ?_ (by assumption) ?_
                rotate_left
                · (intro w hSw; (try dsimp only at hSw); go_simp; all_goals with_reducible rfl)
                try simp only [Act.put, sA, sB, sC]
                refine tkH 33 ⟨some 96, _, _, _, _, _⟩ ?_ rfl ?_ (by assumption) ?_
                rotate_left
                · (intro w hSw; (try dsimp only at hSw); go_simp; all_goals with_reducible rfl)
                try simp only [Act.put, sA, sB, sC]
                refine wpAnyH_ready (rs := [34]) (by kernel_rfl) (by simp) ?_
                refine AllReadyH.cons rfl (fun K hK => ?_) (AllReadyH.nil)
                go_simp
                go_wp2_with fail
                refine hK.out _ _ (by simp [go_sem, World.cell?_alloc_past, *]) (fun hHeld => ?_)
                clear hK K
                try simp only [Act.put, sA, sB, sC]
                refine wpAnyH_ready (rs := [35]) (by kernel_rfl) (by simp) ?_
                refine AllReadyH.cons rfl (fun K hK => ?_) (AllReadyH.nil)
                go_simp
                go_wp2_with fail
                refine hK.out _ _ (by simp [go_sem, World.cell?_alloc_past, *]) (fun hHeld => ?_)
                clear hK K
                try simp only [Act.put, sA, sB, sC]
                refine wpAnyH_done (by kernel_rfl) ?_ _
                go_wp2_with fail
                go_meet
                have E2' := E2.out
                refine ⟨wc.heap.size, rfl, hsz2, by simp, ⟨?_, ?_⟩, hT1.out.below (by (repeat (first | (with_reducible refine Below.drew ?_) | (with_reducible refine below_drewN ?_ _) | (with_reducible refine Below.alloc ?_ (by first | omega | (simp; done) | (simp; omega) | (simp at *; omega)) _) | (with_reducible refine Below.setCell ?_ (by first | omega | (simp; done) | (simp; omega) | (simp at *; omega)) _) | (with_reducible exact Below.refl _ _) | (with_reducible assumption) | (with_reducible refine Below.trans ?_ (Below.mono (by assumption) (by first | omega | (simp; done) | (simp; omega) | (simp at *; omega))))))) hsz2, HS1.out.below (by (repeat (first | (with_reducible refine Below.drew ?_) | (with_reducible refine below_drewN ?_ _) | (with_reducible refine Below.alloc ?_ (by first | omega | (simp; done) | (simp; omega) | (simp at *; omega)) _) | (with_reducible refine Below.setCell ?_ (by first | omega | (simp; done) | (simp; omega) | (simp at *; omega)) _) | (with_reducible exact Below.refl _ _) | (with_reducible assumption) | (with_reducible refine Below.trans ?_ (Below.mono (by assumption) (by first | omega | (simp; done) | (simp; omega) | (simp at *; omega)))))))⟩ <;> (simp [go_sem, *] <;> omega)
              · skip
                go_simp
                go_wp2_with fail
                refine hK.out _ _ (by simp [go_sem, World.cell?_alloc_past, *]) (fun hHeld => ?_)
                clear hK K
                try simp only [Act.put, sA, sB, sC]
                refine wpAnyH_ready (rs := [31]) (by kernel_rfl) (by simp) ?_
                refine AllReadyH.cons rfl (fun K hK => ?_) (AllReadyH.nil)
                go_simp
                refine (bCe_is (m7 + m8) z4 _ (by omega) (by omega) y4).mono ?_
                rintro e w' ⟨rfl, rfl⟩
                go_wp2_with fail
                refine hK.out _ _ (by simp [go_sem, World.cell?_alloc_past, *]) (fun hHeld => ?_)
                clear hK K
                try simp only [Act.put, sA, sB, sC]
                refine tkH 32 ⟨some 95, _, _, _, _, _⟩ ?_ rfl ?_ (by assumption) ?_
                rotate_left
                · (intro w hSw; (try dsimp only at hSw); go_simp; all_goals with_reducible rfl)
                try simp only [Act.put, sA, sB, sC]
                refine tkH 33 ⟨some 96, _, _, _, _, _⟩ ?_ rfl ?_ (by assumption) ?_
                rotate_left
                · (intro w hSw; (try dsimp only at hSw); go_simp; all_goals with_reducible rfl)
                try simp only [Act.put, sA, sB, sC]
                refine wpAnyH_ready (rs := [35]) (by kernel_rfl) (by simp) ?_
                refine AllReadyH.cons rfl (fun K hK => ?_) (AllReadyH.nil)
                go_simp
                go_wp2_with fail
                refine hK.out _ _ (by simp [go_sem, World.cell?_alloc_past, *]) (fun hHeld => ?_)
                clear hK K
                try simp only [Act.put, sA, sB, sC]
                refine wpAnyH_done (by kernel_rfl) ?_ _
                go_wp2_with fail
                go_meet
                have E2' := E2.out
                refine ⟨wc.heap.size, rfl, hsz2, by simp, ⟨?_, ?_⟩, hT1.out.below (by (repeat (first | (with_reducible refine Below.drew ?_) | (with_reducible refine below_drewN ?_ _) | (with_reducible refine Below.alloc ?_ (by first | omega | (simp; done) | (simp; omega) | (simp at *; omega)) _) | (with_reducible refine Below.setCell ?_ (by first | omega | (simp; done) | (simp; omega) | (simp at *; omega)) _) | (with_reducible exact Below.refl _ _) | (with_reducible assumption) | (with_reducible refine Below.trans ?_ (Below.mono (by assumption) (by first | omega | (simp; done) | (simp; omega) | (simp at *; omega))))))) hsz2, HS1.out.below (by (repeat (first | (with_reducible refine Below.drew ?_) | (with_reducible refine below_drewN ?_ _) | (with_reducible refine Below.alloc ?_ (by first | omega | (simp; done) | (simp; omega) | (simp at *; omega)) _) | (with_reducible refine Below.setCell ?_ (by first | omega | (simp; done) | (simp; omega) | (simp at *; omega)) _) | (with_reducible exact Below.refl _ _) | (with_reducible assumption) | (with_reducible refine Below.trans ?_ (Below.mono (by assumption) (by first | omega | (simp; done) | (simp; omega) | (simp at *; omega)))))))⟩ <;> (simp [go_sem, *] <;> omega)
            · skip
              go_simp
              go_wp2_with fail
              refine hK.out _ _ (by simp [go_sem, World.cell?_alloc_past, *]) (fun hHeld => ?_)
              clear hK K
              try simp only [Act.put, sA, sB, sC]
              refine wpAnyH_ready (rs := [15]) (by kernel_rfl) (by simp) ?_
              refine AllReadyH.cons rfl (fun K hK => ?_) (AllReadyH.nil)
              go_simp
              refine (bFl_is (m5 + m6) z3 _ (by omega) (by omega) y3).mono ?_
              rintro e w' ⟨rfl, rfl⟩
              go_wp2_with fail
              refine hK.out _ _ (by simp [go_sem, World.cell?_alloc_past, *]) (fun hHeld => ?_)
              clear hK K
              try simp only [Act.put, sA, sB, sC]
              refine wpAnyH_ready (rs := [31]) (by kernel_rfl) (by simp) ?_
              refine AllReadyH.cons rfl (fun K hK => ?_) (AllReadyH.nil)
              go_simp
              refine (bCe_is (m7 + m8) z4 _ (by omega) (by omega) y4).mono ?_
              rintro e w' ⟨rfl, rfl⟩
              go_wp2_with fail
              refine hK.out _ _ (by simp [go_sem, World.cell?_alloc_past, *]) (fun hHeld => ?_)
              clear hK K
              try simp only [Act.put, sA, sB, sC]
              refine tkH 32 ⟨some 95, _, _, _, _, _⟩ ?_ rfl ?_ (by assumption) ?_
              rotate_left
              · (intro w hSw; (try dsimp only at hSw); go_simp; all_goals with_reducible rfl)
              try simp only [Act.put, sA, sB, sC]
              refine tkH 33 ⟨some 96, _, _, _, _, _⟩ ?_ rfl ?_ (by assumption) ?_
              rotate_left
              · (intro w hSw; (try dsimp only at hSw); go_simp; all_goals with_reducible rfl)
              try simp only [Act.put, sA, sB, sC]
              refine wpAnyH_ready (rs := [35]) (by kernel_rfl) (by simp) ?_
              refine AllReadyH.cons rfl (fun K hK => ?_) (AllReadyH.nil)
              go_simp
              go_wp2_with fail
              refine hK.out _ _ (by simp [go_sem, World.cell?_alloc_past, *]) (fun hHeld => ?_)
              clear hK K
              try simp only [Act.put, sA, sB, sC]
              refine wpAnyH_done (by kernel_rfl) ?_ _
              go_wp2_with fail
              go_meet
              have E2' := E2.out
              refine ⟨wc.heap.size, rfl, hsz2, by simp, ⟨?_, ?_⟩, hT1.out.below (by (repeat (first | (with_reducible refine Below.drew ?_) | (with_reducible refine below_drewN ?_ _) | (with_reducible refine Below.alloc ?_ (by first | omega | (simp; done) | (simp; omega) | (simp at *; omega)) _) | (with_reducible refine Below.setCell ?_ (by first | omega | (simp; done) | (simp; omega) | (simp at *; omega)) _) | (with_reducible exact Below.refl _ _) | (with_reducible assumption) | (with_reducible refine Below.trans ?_ (Below.mono (by assumption) (by first | omega | (simp; done) | (simp; omega) | (simp at *; omega))))))) hsz2, HS1.out.below (by (repeat (first | (with_reducible refine Below.drew ?_) | (with_reducible refine below_drewN ?_ _) | (with_reducible refine Below.alloc ?_ (by first | omega | (simp; done) | (simp; omega) | (simp at *; omega)) _) | (with_reducible refine Below.setCell ?_ (by first | omega | (simp; done) | (simp; omega) | (simp at *; omega)) _) | (with_reducible exact Below.refl _ _) | (with_reducible assumption) | (with_reducible refine Below.trans ?_ (Below.mono (by assumption) (by first | omega | (simp; done) | (simp; omega) | (simp at *; omega)))))))⟩ <;> (simp [go_sem, *] <;> omega)
          case rest =>
            obtain ⟨b, rfl, lb1, lb2, hT2, hT1', HS2⟩ := hcut
            have HS3 := Lib.hid HS2
            have HP := Lib.hid (bo_put HS2 x1 z2 z3 x2)
            obtain ⟨v0, f0⟩ := there_some HS2.tx (show 0 < 2 by omega)
            obtain ⟨v1, f1⟩ := there_some HS2.tx (show 1 < 2 by omega)
            obtain ⟨v2, f2⟩ := there_some HS2.ty (show 0 < 2 by omega)
            obtain ⟨v3, f3⟩ := there_some HS2.ty (show 1 < 2 by omega)
            have z0 := (HS2.tx 0 (by omega)).2
            have z1' := (HS2.tx 1 (by omega)).2
            have z2' := (HS2.ty 0 (by omega)).2
            have z3' := (HS2.ty 1 (by omega)).2
            rw [Nat.zero_add] at f0 f1 f2 f3 z0 z1' z2' z3'
            clear HS2 c0 c1 c2 c3 d0 d1 d2 d3
            obtain ⟨c0, c1⟩ := hT1'
            obtain ⟨c2, c3⟩ := hT2
            have l1 : wr.heap.size ≠ k := by omega
            have l2 : wr.heap.size ≠ k + 1 := by omega
            have l3 : b ≠ k := by omega
            have l4 : b ≠ k + 1 := by omega
            go_upto_region 11 with (fail)
            clear m10 m11 m13 m20 m21 m23 m30 m31 m33 m40 m41 m43 m50 m51 m53 m60 m61 m63 m70 m71 m73 m80 m81 m83 y1 y2 y3 y4 s1 s2 s3 s4 a1 a2 a4 a5 a7 a8 a9 o1 o2 o3 o4 g1 g2 g3 g4 hT1 HS1 HSp HS hvj E1 E2
            refine wp_region_held_drew (S := (fun w' => w'.cell? ⟨wr.heap.size, 0, none⟩ = some (.int .i64 x1) ∧ w'.cell? ⟨wr.heap.size, 1, none⟩ = some (.int .i64 z2) ∧ w'.cell? ⟨b, 0, none⟩ = some (.int .i64 z3) ∧ w'.cell? ⟨b, 1, none⟩ = some (.int .i64 x2))) (by kernel_rfl) (by simp [go_sem, World.cell?_alloc_past, *]) (fun hHeld => ?_)
            refine tkH 0 ⟨some 97, _, _, _, _, _⟩ ?_ rfl ?_ (by assumption) ?_
            rotate_left
            · (intro w hSw; (try dsimp only at hSw); go_simp; all_goals with_reducible rfl)
            try simp only [Act.put, sA, sB, sC]
            refine tkH 1 ⟨some 98, _, _, _, _, _⟩ ?_ rfl ?_ (by assumption) ?_
            rotate_left
            · (intro w hSw; (try dsimp only at hSw); go_simp; all_goals with_reducible rfl)
            try simp only [Act.put, sA, sB, sC]
            refine wpAnyH_ready (rs := [2]) (by kernel_rfl) (by simp) ?_
            refine AllReadyH.cons rfl (fun K hK => ?_) AllReadyH.nil
            go_simp
            go_wp2_with fail
            refine hK.out _ _ (by simp [go_sem, World.cell?_alloc_past, *]) (fun hHeld => ?_)
            clear hK K
            try simp only [Act.put, sA, sB, sC]
            refine wpAnyH_ready (rs := [3]) (by kernel_rfl) (by simp) ?_
            refine AllReadyH.cons rfl (fun K hK => ?_) AllReadyH.nil
            go_simp
            go_wp2_with fail
            refine hK.out _ _ (by simp [go_sem, World.cell?_alloc_past, *]) (fun hHeld => ?_)
            clear hK K
            try simp only [Act.put, sA, sB, sC]
            refine wpAnyH_done (by kernel_rfl) ?_ _
            go_wp2
            go_roundw
            case rel => exact ⟨j + 1, by go_num, by rw [HQ2.out], by omega, by omega, Lib.hid (by rw [HN.out]; exact HP.out.below (by (repeat (first | (with_reducible refine Below.drew ?_) | (with_reducible refine below_drewN ?_ _) | (with_reducible refine Below.alloc ?_ (by first | omega | (simp; done) | (simp; omega) | (simp at *; omega)) _) | (with_reducible refine Below.setCell ?_ (by first | omega | (simp; done) | (simp; omega) | (simp at *; omega)) _) | (with_reducible exact Below.refl _ _) | (with_reducible assumption) | (with_reducible refine Below.trans ?_ (Below.mono (by assumption) (by first | omega | (simp; done) | (simp; omega) | (simp at *; omega))))))))⟩
            case measure => (simp [intOf]) <;> omega
    · have hjj : j = 11 := by omega
      subst hjj
      clear j1 jl j10
      have HSp : Hid (BoS w n k C S ⟨ea, eb, ec, ed⟩ wr) := Lib.hid (by rw [← he.out]; exact HS.out)
      obtain ⟨c0, c1⟩ := HSp.out.x
      obtain ⟨c2, c3⟩ := HSp.out.y
      dsimp only at c0 c1 c2 c3
      obtain ⟨v0, f0⟩ := there_some HSp.out.t0 (show 0 < 2 by omega)
      obtain ⟨v1, f1⟩ := there_some HSp.out.t0 (show 1 < 2 by omega)
      obtain ⟨v2, f2⟩ := there_some HSp.out.t1 (show 0 < 2 by omega)
      obtain ⟨v3, f3⟩ := there_some HSp.out.t1 (show 1 < 2 by omega)
      have z0 := (HSp.out.t0 0 (by omega)).2
      have z1' := (HSp.out.t0 1 (by omega)).2
      have z2' := (HSp.out.t1 0 (by omega)).2
      have z3' := (HSp.out.t1 1 (by omega)).2
      rw [Nat.zero_add] at f0 f1 f2 f3 z0 z1' z2' z3'
      have l1 : w.heap.size ≠ k := by omega
      have l2 : w.heap.size ≠ k + 1 := by omega
      have l3 : w.heap.size + 1 ≠ k := by omega
      have l4 : w.heap.size + 1 ≠ k + 1 := by omega
      have l5 : k ≠ w.heap.size := by omega
      have l6 : k + 1 ≠ w.heap.size := by omega
      have l7 : k ≠ w.heap.size + 1 := by omega
      have l8 : k + 1 ≠ w.heap.size + 1 := by omega
      have hBe := HSp.out.be
      clear HS
      go_upto_region 12 with (fail)
      refine wp_region_held_drew (S := (fun w' => w'.cell? ⟨k, 0, none⟩ = some (.int .i64 ea) ∧ w'.cell? ⟨k, 1, none⟩ = some (.int .i64 eb) ∧ w'.cell? ⟨k + 1, 0, none⟩ = some (.int .i64 ec) ∧ w'.cell? ⟨k + 1, 1, none⟩ = some (.int .i64 ed))) (by kernel_rfl) (by simp [go_sem, World.cell?_alloc_past, *]) (fun hHeld => ?_)
      refine tkH 0 ⟨some 99, _, _, _, _, _⟩ ?_ rfl ?_ (by assumption) ?_
      rotate_left
      · (intro w hSw; (try dsimp only at hSw); go_simp; all_goals with_reducible rfl)
      try simp only [Act.put, sA, sB, sC]
      refine tkH 1 ⟨some 100, _, _, _, _, _⟩ ?_ rfl ?_ (by assumption) ?_
      rotate_left
      · (intro w hSw; (try dsimp only at hSw); go_simp; all_goals with_reducible rfl)
      try simp only [Act.put, sA, sB, sC]
      refine wpAnyH_ready (rs := [2]) (by kernel_rfl) (by simp) ?_
      refine AllReadyH.cons rfl (fun K hK => ?_) AllReadyH.nil
      go_simp
      go_wp2_with fail
      refine hK.out _ _ (by simp [go_sem, World.cell?_alloc_past, *]) (fun hHeld => ?_)
      clear hK K
      try simp only [Act.put, sA, sB, sC]
      refine wpAnyH_ready (rs := [3]) (by kernel_rfl) (by simp) ?_
      refine AllReadyH.cons rfl (fun K hK => ?_) AllReadyH.nil
      go_simp
      go_wp2_with fail
      refine hK.out _ _ (by simp [go_sem, World.cell?_alloc_past, *]) (fun hHeld => ?_)
      clear hK K
      try simp only [Act.put, sA, sB, sC]
      refine wpAnyH_done (by kernel_rfl) ?_ _
      go_wp2
      refine bodyPost_ret (v := .tuple #[.agg #[.int .i64 ea, .int .i64 eb], .agg #[.int .i64 ec, .int .i64 ed]]) (by simp [results, Tryz.results159, go_sem, *] <;> omega) rfl ⟨rfl, ?_⟩
      (repeat (first | (with_reducible refine Below.drew ?_) | (with_reducible refine below_drewN ?_ _) | (with_reducible refine Below.alloc ?_ (by first | omega | (simp; done) | (simp; omega) | (simp at *; omega)) _) | (with_reducible refine Below.setCell ?_ (by first | omega | (simp; done) | (simp; omega) | (simp at *; omega)) _) | (with_reducible exact Below.refl _ _) | (with_reducible assumption) | (with_reducible refine Below.trans ?_ (Below.mono (by assumption) (by first | omega | (simp; done) | (simp; omega) | (simp at *; omega))))))
end Go.Proofs.YtojaompfffpofaaGreat
