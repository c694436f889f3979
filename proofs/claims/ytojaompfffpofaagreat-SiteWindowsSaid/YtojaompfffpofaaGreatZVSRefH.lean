import Derived.Test.YtojaompfffpofaaGreatZVNums
import Derived.Test.YtojaompfffpofaaGreatRootB
import Derived.Outline
namespace Go.Proofs.YtojaompfffpofaaGreat
open Go.ChangeShapes Go.WideShapes Go.ChangeAt Go.RowKit
set_option linter.unusedVariables false
set_option linter.unusedSimpArgs false
attribute [local go_sem ↓] Go.wp_at_zero Go.wp_at_succ
def cPr (p : Pt) : List Value := [.int .i64 p.a, .int .i64 p.b]
def sPr (p : Pt) : List Value := [.int .i64 p.c, .int .i64 p.d]
def cHV : List Value := hvL.flatMap cPr
def sHV : List Value := hvL.flatMap sPr
theorem Root_is (n : Int) (m r : Nat) (w : World) (hn : n = (m : Int)) (hm : m ≤ 1000000000000000000) (hr : Hid (rtD m = r)) :
    Calls Tryz.prog 186 #[.int .i64 n] w fun e w' => e = .returned (.int .i64 r) ∧ w = w' := by
  subst hn; rw [← hr.out]; exact baseRoot_any m w hm
theorem up2_is (n : Int) (m r : Nat) (w : World) (hn : n = (m : Int)) (hm : m ≤ 10000000000000000) (hr : Hid (rtU m = r)) :
    Calls Tryz.prog 187 #[.int .i64 n] w fun e w' => e = .returned (.int .i64 r) ∧ w = w' := by
  subst hn
  have he := hr.out
  unfold rtU at he
  have h3 := isq_le m
  have h4 := isq_lt m
  obtain ⟨q, hq⟩ : ∃ q, Hid (isq m = q) := ⟨_, Lib.hid rfl⟩
  rw [hq.out] at he h3 h4
  have hb : q ≤ 100000000 := by
    rcases Nat.lt_or_ge 100000000 q with h | h
    · have : 100000001 * 100000001 ≤ q * q := Nat.mul_le_mul h h
      omega
    · exact h
  obtain ⟨p, hp⟩ : ∃ p, Hid (q * q = p) := ⟨_, Lib.hid rfl⟩
  rw [hp.out] at he h3
  have m0 : ((q : Int)) * (q : Int) = (p : Int) := by rw [← hp.out]; simp
  have m1 : IntKind.i64.wrap ((q : Int) * (q : Int)) = (p : Int) := by rw [m0]; exact IntWalk.i64_in _ (by omega)
  have HR := Lib.hid fun w => Root_is (m : Int) m q w rfl (by omega) hq
  clear hr hp h4
  by_cases h : p < m
  · rw [if_pos h] at he
    have HE := Lib.hid he
    have i1 : (p : Int) < (m : Int) := by omega
    clear he
    go_enter Tryz.func187, Tryz.ntmps187
    go_wp2_with fail
    refine (HR.out _).mono ?_
    rintro e w' ⟨rfl, rfl⟩
    go_wp2
    go_ret
    exact ⟨ret_int (by rw [← HE.out]; rfl), rfl⟩
  · rw [if_neg h] at he
    have HE := Lib.hid he
    have i1 : ¬ (p : Int) < (m : Int) := by omega
    clear he
    go_enter Tryz.func187, Tryz.ntmps187
    go_wp2_with fail
    refine (HR.out _).mono ?_
    rintro e w' ⟨rfl, rfl⟩
    go_wp2
    go_ret
    exact ⟨ret_int (by rw [← HE.out]), rfl⟩
def put2 (X : World) (b o : Nat) (u0 u1 : Value) : World := (X.setCell ⟨b, o, none⟩ u0).setCell ⟨b, o + 1, none⟩ u1
theorem put2_is {X : World} {b o n : Nat} (u0 u1 : Value) (h : X.there b 0 n) (ho : o + 2 ≤ n) :
    (put2 X b o u0 u1).rangeAt b o [u0, u1] ∧ (∀ c i m, X.there c i m → (put2 X b o u0 u1).there c i m) ∧ (∀ c i, (c ≠ b ∨ i < o ∨ o + 2 ≤ i) → (put2 X b o u0 u1).cell? ⟨c, i, none⟩ = X.cell? ⟨c, i, none⟩) ∧ (put2 X b o u0 u1).heap.size = X.heap.size := by
  obtain ⟨v0, h0⟩ := there_some h (show o < n by omega)
  obtain ⟨v1, h1⟩ := there_some h (show o + 1 < n by omega)
  rw [Nat.zero_add] at h0 h1
  have g0 : (put2 X b o u0 u1).cell? ⟨b, o, none⟩ = some u0 := by unfold put2; rw [cell_off (Or.inr (by omega))]; exact cell_same h0
  have g1 : (put2 X b o u0 u1).cell? ⟨b, o + 1, none⟩ = some u1 := by unfold put2; exact cell_same (v := v1) (by rw [cell_off (Or.inr (by omega))]; exact h1)
  have go : ∀ c i, (c ≠ b ∨ i < o ∨ o + 2 ≤ i) → (put2 X b o u0 u1).cell? ⟨c, i, none⟩ = X.cell? ⟨c, i, none⟩ := fun c i hh => by
    unfold put2
    by_cases hc : c = b
    · rw [cell_off (Or.inr (by omega)), cell_off (Or.inr (by omega))]
    · rw [cell_off (Or.inl hc), cell_off (Or.inl hc)]
  refine ⟨?_, ?_, go, by unfold put2; simp only [size_set]⟩
  · intro j v hj
    match j, hj with
    | 0, hj => cases hj; exact g0
    | 1, hj => cases hj; exact g1
    | j + 2, hj => simp at hj
  · intro c i m ht
    refine there_keep ht fun j hj => ⟨fun q => ?_, by unfold put2; simp only [World.frozen?_setCell]⟩
    by_cases hr : c ≠ b ∨ i + j < o ∨ o + 2 ≤ i + j
    · rw [go _ _ hr]; exact q
    · have hc : c = b := by omega
      subst hc
      rcases (show i + j = o ∨ i + j = o + 1 by omega) with e | e
      · rw [e, g0]; rfl
      · rw [e, g1]; rfl
/-- Where the loop over halves stands. -/
structure RhS (k : Nat) (w X : World) : Prop where
  c : ∀ j, j < k → X.rangeAt (w.heap.size + 1 + 1) (j * 2) (cPr (hv j))
  s : ∀ j, j < k → X.rangeAt (w.heap.size + 1 + 1 + 1) (j * 2) (sPr (hv j))
  tc : X.there (w.heap.size + 1 + 1) 0 22
  ts : X.there (w.heap.size + 1 + 1 + 1) 0 22
  t0 : X.there w.heap.size 0 22
  t1 : X.there (w.heap.size + 1) 0 22
  sz : w.heap.size + 4 ≤ X.heap.size
  be : Below w.heap.size w X
theorem RhS.below {k : Nat} {w X X' : World} (h : RhS k w X) (hb : Below X.heap.size X X') : RhS k w X' := by
  have z := hb.size
  have l := h.sz
  exact ⟨fun j hj => range_below (h.c j hj) hb (by omega), fun j hj => range_below (h.s j hj) hb (by omega), there_below h.tc hb (by omega), there_below h.ts hb (by omega), there_below h.t0 hb (by omega), there_below h.t1 hb (by omega), by omega, h.be.trans (hb.mono h.be.size)⟩
theorem rh_start (w : World) (Z V : List Value) (T : TypeId) (hz : Z.length = 22) (hv2 : V.length = 22) (z2 : Z.take 2 = cPr (hv 0)) (v2 : V.take 2 = sPr (hv 0)) :
    RhS 1 w ((((w.alloc (.cells Z.toArray T)).alloc (.cells Z.toArray T)).alloc (.cells Z.toArray T)).alloc (.cells V.toArray T)) := by
  have a0 := there_new w Z T
  have a1 := there_new (w.alloc (.cells Z.toArray T)) Z T
  have a2 := there_new ((w.alloc (.cells Z.toArray T)).alloc (.cells Z.toArray T)) Z T
  have a3 := there_new (((w.alloc (.cells Z.toArray T)).alloc (.cells Z.toArray T)).alloc (.cells Z.toArray T)) V T
  rw [hz] at a0 a1 a2
  rw [hv2] at a3
  have s1 : (w.alloc (.cells Z.toArray T)).heap.size = w.heap.size + 1 := by simp
  have s2 : ((w.alloc (.cells Z.toArray T)).alloc (.cells Z.toArray T)).heap.size = w.heap.size + 1 + 1 := by simp
  have s3 : (((w.alloc (.cells Z.toArray T)).alloc (.cells Z.toArray T)).alloc (.cells Z.toArray T)).heap.size = w.heap.size + 1 + 1 + 1 := by simp
  rw [s1] at a1
  rw [s2] at a2
  rw [s3] at a3
  have nw : ∀ (X : World) (L M : List Value), M = L.take 2 → (X.alloc (.cells L.toArray T)).rangeAt X.heap.size 0 M := by
    intro X L M hM j v hj
    rw [hM] at hj
    have hj2 : j < 2 := by have := (List.getElem?_eq_some_iff.1 hj).1; simp at this; omega
    rw [List.getElem?_take_of_lt hj2] at hj
    rw [Nat.zero_add]
    simp [hj]
  refine ⟨fun j hj => ?_, fun j hj => ?_, World.there_alloc a2 _, a3, World.there_alloc (World.there_alloc (World.there_alloc a0 _) _) _, World.there_alloc (World.there_alloc a1 _) _, by simp, (((((Below.refl _ _).alloc (Nat.le_refl _) _).alloc (by simp) _).alloc (by simp; omega) _).alloc (by simp; omega) _)⟩
  · obtain rfl : j = 0 := by omega
    have h := nw ((w.alloc (.cells Z.toArray T)).alloc (.cells Z.toArray T)) Z (cPr (hv 0)) z2.symm
    rw [s2] at h
    exact range_below h ((Below.refl _ _).alloc (Nat.le_refl _) _) (by rw [s3]; omega)
  · obtain rfl : j = 0 := by omega
    have h := nw (((w.alloc (.cells Z.toArray T)).alloc (.cells Z.toArray T)).alloc (.cells Z.toArray T)) V (sPr (hv 0)) v2.symm
    rw [s3] at h
    exact h
theorem rh_round {w X : World} {k : Nat} {r0 r1 r2 r3 : Nat} (h : RhS k w X) (hk : k < 11) (e0 : (hv k).a = r0) (e1 : (hv k).b = r1) (e2 : (hv k).c = r2) (e3 : (hv k).d = r3) :
    RhS (k + 1) w (put2 (put2 X (w.heap.size + 1 + 1) (k * 2) (.int .i64 r0) (.int .i64 r1)) (w.heap.size + 1 + 1 + 1) (k * 2) (.int .i64 r2) (.int .i64 r3)) := by
  obtain ⟨p1, p2, p3, p4⟩ := put2_is (.int .i64 r0) (.int .i64 r1) h.tc (show k * 2 + 2 ≤ 22 by omega)
  obtain ⟨q1, q2, q3, q4⟩ := put2_is (.int .i64 r2) (.int .i64 r3) (p2 _ _ _ h.ts) (show k * 2 + 2 ≤ 22 by omega)
  refine ⟨fun j hj => ?_, fun j hj => ?_, q2 _ _ _ (p2 _ _ _ h.tc), q2 _ _ _ (p2 _ _ _ h.ts), q2 _ _ _ (p2 _ _ _ h.t0), q2 _ _ _ (p2 _ _ _ h.t1), by rw [q4, p4]; exact h.sz, ?_⟩
  · by_cases e : j = k
    · subst e
      have : cPr (hv j) = [.int .i64 r0, .int .i64 r1] := by unfold cPr; rw [e0, e1]
      rw [this]
      exact range_keep p1 fun i hi => q3 _ _ (Or.inl (by omega))
    · refine range_keep (h.c j (by omega)) fun i hi => ?_
      have hi2 : i < 2 := hi
      rw [q3 _ _ (Or.inl (by omega)), p3 _ _ (Or.inr (Or.inl (by omega)))]
  · by_cases e : j = k
    · subst e
      have : sPr (hv j) = [.int .i64 r2, .int .i64 r3] := by unfold sPr; rw [e2, e3]
      rw [this]; exact q1
    · refine range_keep (h.s j (by omega)) fun i hi => ?_
      have hi2 : i < 2 := hi
      rw [q3 _ _ (Or.inr (Or.inl (by omega))), p3 _ _ (Or.inl (by omega))]
  · unfold put2
    exact ((((h.be.setCell (p := ⟨_, _, none⟩) (by show w.heap.size ≤ w.heap.size + 1 + 1; omega) _).setCell (p := ⟨_, _, none⟩) (by show w.heap.size ≤ w.heap.size + 1 + 1; omega) _).setCell (p := ⟨_, _, none⟩) (by show w.heap.size ≤ w.heap.size + 1 + 1 + 1; omega) _).setCell (p := ⟨_, _, none⟩) (by show w.heap.size ≤ w.heap.size + 1 + 1 + 1; omega) _)
theorem pairs_at {w : World} {b : Nat} {f : Pt → List Value} (hf : ∀ p, (f p).length = 2) (h : ∀ j, j < 11 → w.rangeAt b (j * 2) (f (hv j))) : w.rangeAt b 0 (hvL.flatMap f) := by
  have key : ∀ (n : Nat), n ≤ 11 → w.rangeAt b 0 ((hvL.take n).flatMap f) ∧ ((hvL.take n).flatMap f).length = n * 2 := by
    intro n
    induction n with
    | zero => intro _; exact ⟨fun j v hj => by simp at hj, by simp⟩
    | succ n ih =>
      intro hn
      obtain ⟨h1, h2⟩ := ih (by omega)
      have hlt : n < hvL.length := by show n < 11; omega
      have e : hvL.take (n + 1) = hvL.take n ++ [hv n] := by rw [List.take_succ_eq_append_getElem hlt]; unfold hv; rw [List.getD_eq_getElem?_getD, List.getElem?_eq_getElem hlt]; rfl
      rw [e, List.flatMap_append]
      have e2 : [hv n].flatMap f = f (hv n) := by simp
      rw [e2]
      refine ⟨fun j v hj => ?_, by rw [List.length_append, h2, hf]; omega⟩
      by_cases hjn : j < n * 2
      · rw [List.getElem?_append_left (by rw [h2]; exact hjn)] at hj; exact h1 j v hj
      · rw [List.getElem?_append_right (by rw [h2]; omega), h2] at hj
        have := h n (by omega) (j - n * 2) v hj
        rw [show 0 + j = n * 2 + (j - n * 2) by omega]; exact this
  have := (key 11 (Nat.le_refl _)).1
  rwa [show hvL.take 11 = hvL from rfl] at this
theorem cHV_one : ∀ v ∈ cHV, v.oneCell' = true := by
  intro v hv
  obtain ⟨p, _, h⟩ := List.mem_flatMap.1 hv
  simp [cPr] at h; rcases h with rfl | rfl <;> rfl
theorem sHV_one : ∀ v ∈ sHV, v.oneCell' = true := by
  intro v hv
  obtain ⟨p, _, h⟩ := List.mem_flatMap.1 hv
  simp [sPr] at h; rcases h with rfl | rfl <;> rfl
theorem if_pos_k {c : Bool} {p q : Prop} (h : c = true) (hp : p) : if c = true then p else q := by rw [if_pos h]; exact hp
theorem results_mid2 {P : Program} {fn : Func} {tmps : Array Value} {W : World} {s1 s2 : Tmp} {T : TypeId} {a1 a2 : Addr} {v1 v2 : Value} (h : fn.results = #[.cell s1 T, .cell s2 T]) (hs1 : tmps.getD s1 undef = .pointer (some a1)) (hs2 : tmps.getD s2 undef = .pointer (some a2)) (hl1 : (loadVar T a1).run P W = .ok v1 W) (hl2 : (loadVar T a2).run P W = .ok v2 W) : (results fn tmps).run P W = .ok (.tuple #[v1, v2]) W := by
  simp only [results, h, Array.mapM_eq_mapM_toList, List.mapM_cons, List.mapM_nil, Sem.run_bind, Sem.run_pure, Sem.run_map, hs1, hs2, asAddr, Result.andThen_ok, hl1, hl2]
  simp [Sem.run_bind, hl1, hl2]
set_option maxRecDepth 100000 in
set_option maxHeartbeats 4000000 in
theorem refHalves_any (w : World) :
    Calls Tryz.prog 177 #[] w fun e w' => e = .returned (.tuple #[.agg cHV.toArray, .agg sHV.toArray]) ∧ Below w.heap.size w w' := by
  go_enter Tryz.func177, Tryz.ntmps177
  go_upto_region 3 with (fail)
  refine wp_world (RhS 1 w) (rh_start w _ _ _ rfl rfl rfl rfl) (fun X hX => ?_)
  have HX := Lib.hid hX
  clear hX
  go_wp2_with fail
  go_loopw [4] (fun i wr => ∃ k : Nat, i = .int .i64 k ∧ 1 ≤ k ∧ k ≤ 11 ∧ Hid (RhS k w wr)) (fun i _ => 11 - (intOf i).toNat)
  case atStart => exact ⟨1, rfl, by omega, by omega, HX⟩
  case round =>
    clear HX
    obtain ⟨k, rfl, hk1, hk, HS⟩ := hrel
    have sz := HS.out.sz
    by_cases hk10 : k ≤ 10
    · have ki : (k : Int) ≤ 10 := by omega
      obtain ⟨a, b, ga, gb, la, lb, s0, s1, s2, s3⟩ := hv_step (show k - 1 < 10 by omega)
      rw [show k - 1 + 1 = k by omega] at s0 s1 s2 s3
      have c0 := HS.out.c (k - 1) (by omega) 0 _ rfl
      have c1 := HS.out.c (k - 1) (by omega) 1 _ rfl
      rw [ga] at c0
      rw [gb] at c1
      rw [Nat.add_zero ((k - 1) * 2)] at c0
      obtain ⟨r0, qr0⟩ : ∃ r, Hid (rtD ((100000000 + a) * 50000000) = r) := ⟨_, Lib.hid rfl⟩
      obtain ⟨r1, qr1⟩ : ∃ r, Hid (rtU ((100000000 + b) * 50000000) = r) := ⟨_, Lib.hid rfl⟩
      obtain ⟨r2, qr2⟩ : ∃ r, Hid (rtD ((100000000 - b) * 50000000) = r) := ⟨_, Lib.hid rfl⟩
      obtain ⟨r3, qr3⟩ : ∃ r, Hid (rtU ((100000000 - a) * 50000000) = r) := ⟨_, Lib.hid rfl⟩
      have HS2 := Lib.hid (rh_round HS.out (show k < 11 by omega) (by rw [s0, qr0.out]) (by rw [s1, qr1.out]) (by rw [s2, qr2.out]) (by rw [s3, qr3.out]))
      obtain ⟨v0, y0⟩ := there_some HS.out.tc (show k * 2 < 22 by omega)
      obtain ⟨v1, y1⟩ := there_some HS.out.tc (show k * 2 + 1 < 22 by omega)
      obtain ⟨v2, y2⟩ := there_some HS.out.ts (show k * 2 < 22 by omega)
      obtain ⟨v3, y3⟩ := there_some HS.out.ts (show k * 2 + 1 < 22 by omega)
      have f0 := (HS.out.tc (k * 2) (by omega)).2
      have f1 := (HS.out.tc (k * 2 + 1) (by omega)).2
      have f2 := (HS.out.ts (k * 2) (by omega)).2
      have f3 := (HS.out.ts (k * 2 + 1) (by omega)).2
      rw [Nat.zero_add] at y0 y1 y2 y3 f0 f1 f2 f3
      have e1 : IntKind.i64.wrap (100000000 + (a : Int)) = 100000000 + a := IntWalk.i64_in _ (by omega)
      have e2 : IntKind.i64.wrap (100000000 + (b : Int)) = 100000000 + b := IntWalk.i64_in _ (by omega)
      have e3 : IntKind.i64.wrap (100000000 - (a : Int)) = 100000000 - a := IntWalk.i64_in _ (by omega)
      have e4 : IntKind.i64.wrap (100000000 - (b : Int)) = 100000000 - b := IntWalk.i64_in _ (by omega)
      have e5 : IntKind.i64.wrap ((100000000 + (a : Int)) * 50000000) = (100000000 + (a : Int)) * 50000000 := IntWalk.i64_in _ (by omega)
      have e6 : IntKind.i64.wrap ((100000000 + (b : Int)) * 50000000) = (100000000 + (b : Int)) * 50000000 := IntWalk.i64_in _ (by omega)
      have e7 : IntKind.i64.wrap ((100000000 - (a : Int)) * 50000000) = (100000000 - (a : Int)) * 50000000 := IntWalk.i64_in _ (by omega)
      have e8 : IntKind.i64.wrap ((100000000 - (b : Int)) * 50000000) = (100000000 - (b : Int)) * 50000000 := IntWalk.i64_in _ (by omega)
      have w2 : IntKind.i64.wrap ((k : Int) - 1) = (k : Int) - 1 := IntWalk.i64_in _ (by omega)
      have j2 : (0 : Int) ≤ (k : Int) - 1 := by omega
      have j2' : (1 : Int) ≤ (k : Int) := by omega
      have j3 : ((k : Int) - 1).toNat = k - 1 := by omega
      have j4 : (k : Int) - 1 < 11 := by omega
      have j5 : (k : Int) < 11 := by omega
      have n1 : w.heap.size + 1 + 1 < wr.heap.size := by omega
      have n2 : w.heap.size + 1 + 1 + 1 < wr.heap.size := by omega
      have n3 : wr.heap.size ≠ w.heap.size + 1 + 1 := by omega
      have n4 : wr.heap.size ≠ w.heap.size + 1 + 1 + 1 := by omega
      have n5 : w.heap.size + 1 + 1 ≠ wr.heap.size := by omega
      have n6 : w.heap.size + 1 + 1 + 1 ≠ wr.heap.size := by omega
      have t1 : w.heap.size + 1 + 1 < wr.heap.size + 1 := by omega
      have t2 : w.heap.size + 1 + 1 + 1 < wr.heap.size + 1 := by omega
      clear ga gb s0 s1 s2 s3
      go_upto_region 7 with (fail)
      refine wp_region_held_drew (S := (fun w' => w'.cell? ⟨wr.heap.size, 0, none⟩ = some (.int .i64 (a : Int)) ∧ w'.cell? ⟨wr.heap.size, 1, none⟩ = some (.int .i64 (b : Int)))) (by kernel_rfl) (by simp [go_sem, World.cell?_alloc_past, *]) (fun hHeld => ?_)
      refine tkH 0 ⟨some 16, _, _, _, _, _⟩ ?_ rfl ?_ (by assumption) ?_
      rotate_left
      · (intro w hSw; (try dsimp only at hSw); go_simp; all_goals with_reducible rfl)
      try simp only [Act.put, sA, sB, sC]
      refine tkH 1 ⟨some 17, _, _, _, _, _⟩ ?_ rfl ?_ (by assumption) ?_
      rotate_left
      · (intro w hSw; (try dsimp only at hSw); go_simp; all_goals with_reducible rfl)
      try simp only [Act.put, sA, sB, sC]
      refine tkH 2 ⟨some 18, _, _, _, _, _⟩ ?_ rfl ?_ (by assumption) ?_
      rotate_left
      · (intro w hSw; (try dsimp only at hSw); go_simp; all_goals with_reducible rfl)
      try simp only [Act.put, sA, sB, sC]
      refine tkH 3 ⟨some 19, _, _, _, _, _⟩ ?_ rfl ?_ (by assumption) ?_
      rotate_left
      · (intro w hSw; (try dsimp only at hSw); go_simp; all_goals with_reducible rfl)
      try simp only [Act.put, sA, sB, sC]
      refine tkH 4 ⟨some 20, _, _, _, _, _⟩ ?_ rfl ?_ (by assumption) ?_
      rotate_left
      · (intro w hSw; (try dsimp only at hSw); go_simp; all_goals with_reducible rfl)
      try simp only [Act.put, sA, sB, sC]
      refine tkH 6 ⟨some 22, _, _, _, _, _⟩ ?_ rfl ?_ (by assumption) ?_
      rotate_left
      · (intro w hSw; (try dsimp only at hSw); go_simp; all_goals with_reducible rfl)
      try simp only [Act.put, sA, sB, sC]
      refine tkH 7 ⟨some 23, _, _, _, _, _⟩ ?_ rfl ?_ (by assumption) ?_
      rotate_left
      · (intro w hSw; (try dsimp only at hSw); go_simp; all_goals with_reducible rfl)
      try simp only [Act.put, sA, sB, sC]
      refine tkH 8 ⟨some 24, _, _, _, _, _⟩ ?_ rfl ?_ (by assumption) ?_
      rotate_left
      · (intro w hSw; (try dsimp only at hSw); go_simp; all_goals with_reducible rfl)
      try simp only [Act.put, sA, sB, sC]
      refine tkH 9 ⟨some 25, _, _, _, _, _⟩ ?_ rfl ?_ (by assumption) ?_
      rotate_left
      · (intro w hSw; (try dsimp only at hSw); go_simp; all_goals with_reducible rfl)
      try simp only [Act.put, sA, sB, sC]
      refine wpAnyH_ready (rs := [5]) (by kernel_rfl) (by simp) ?_
      refine AllReadyH.cons rfl (fun K hK => ?_) AllReadyH.nil
      go_simp
      refine (Root_is ((100000000 + (a : Int)) * 50000000) ((100000000 + a) * 50000000) r0 _ (by omega) (by omega) qr0).mono ?_
      rintro e w' ⟨rfl, rfl⟩
      go_wp2_with fail
      refine hK.out _ _ (by simp [go_sem, World.cell?_alloc_past, *]) (fun hHeld => ?_)
      clear hK K
      try simp only [Act.put, sA, sB, sC]
      refine wpAnyH_ready (rs := [10]) (by kernel_rfl) (by simp) ?_
      refine AllReadyH.cons rfl (fun K hK => ?_) AllReadyH.nil
      go_simp
      refine (up2_is ((100000000 + (b : Int)) * 50000000) ((100000000 + b) * 50000000) r1 _ (by omega) (by omega) qr1).mono ?_
      rintro e w' ⟨rfl, rfl⟩
      go_wp2_with fail
      refine hK.out _ _ (by simp [go_sem, World.cell?_alloc_past, *]) (fun hHeld => ?_)
      clear hK K
      try simp only [Act.put, sA, sB, sC]
      refine tkH 11 ⟨some 27, _, _, _, _, _⟩ ?_ rfl ?_ (by assumption) ?_
      rotate_left
      · (intro w hSw; (try dsimp only at hSw); go_simp; all_goals with_reducible rfl)
      try simp only [Act.put, sA, sB, sC]
      refine tkH 12 ⟨some 28, _, _, _, _, _⟩ ?_ rfl ?_ (by assumption) ?_
      rotate_left
      · (intro w hSw; (try dsimp only at hSw); go_simp; all_goals with_reducible rfl)
      try simp only [Act.put, sA, sB, sC]
      refine wpAnyH_ready (rs := [13]) (by kernel_rfl) (by simp) ?_
      refine AllReadyH.cons rfl (fun K hK => ?_) AllReadyH.nil
      go_simp
      go_wp2_with fail
      refine hK.out _ _ (by simp [go_sem, World.cell?_alloc_past, *]) (fun hHeld => ?_)
      clear hK K
      try simp only [Act.put, sA, sB, sC]
      refine wpAnyH_done (by kernel_rfl) ?_ _
      go_upto_region 8 with (fail)
      refine wp_region_held_drew (S := (fun w' => w'.cell? ⟨wr.heap.size, 0, none⟩ = some (.int .i64 (a : Int)) ∧ w'.cell? ⟨wr.heap.size, 1, none⟩ = some (.int .i64 (b : Int)))) (by kernel_rfl) (by simp [go_sem, World.cell?_alloc_past, *]) (fun hHeld => ?_)
      refine tkH 0 ⟨some 29, _, _, _, _, _⟩ ?_ rfl ?_ (by assumption) ?_
      rotate_left
      · (intro w hSw; (try dsimp only at hSw); go_simp; all_goals with_reducible rfl)
      try simp only [Act.put, sA, sB, sC]
      refine tkH 1 ⟨some 30, _, _, _, _, _⟩ ?_ rfl ?_ (by assumption) ?_
      rotate_left
      · (intro w hSw; (try dsimp only at hSw); go_simp; all_goals with_reducible rfl)
      try simp only [Act.put, sA, sB, sC]
      refine tkH 2 ⟨some 31, _, _, _, _, _⟩ ?_ rfl ?_ (by assumption) ?_
      rotate_left
      · (intro w hSw; (try dsimp only at hSw); go_simp; all_goals with_reducible rfl)
      try simp only [Act.put, sA, sB, sC]
      refine tkH 3 ⟨some 32, _, _, _, _, _⟩ ?_ rfl ?_ (by assumption) ?_
      rotate_left
      · (intro w hSw; (try dsimp only at hSw); go_simp; all_goals with_reducible rfl)
      try simp only [Act.put, sA, sB, sC]
      refine tkH 4 ⟨some 33, _, _, _, _, _⟩ ?_ rfl ?_ (by assumption) ?_
      rotate_left
      · (intro w hSw; (try dsimp only at hSw); go_simp; all_goals with_reducible rfl)
      try simp only [Act.put, sA, sB, sC]
      refine tkH 6 ⟨some 35, _, _, _, _, _⟩ ?_ rfl ?_ (by assumption) ?_
      rotate_left
      · (intro w hSw; (try dsimp only at hSw); go_simp; all_goals with_reducible rfl)
      try simp only [Act.put, sA, sB, sC]
      refine tkH 7 ⟨some 36, _, _, _, _, _⟩ ?_ rfl ?_ (by assumption) ?_
      rotate_left
      · (intro w hSw; (try dsimp only at hSw); go_simp; all_goals with_reducible rfl)
      try simp only [Act.put, sA, sB, sC]
      refine tkH 8 ⟨some 37, _, _, _, _, _⟩ ?_ rfl ?_ (by assumption) ?_
      rotate_left
      · (intro w hSw; (try dsimp only at hSw); go_simp; all_goals with_reducible rfl)
      try simp only [Act.put, sA, sB, sC]
      refine tkH 9 ⟨some 38, _, _, _, _, _⟩ ?_ rfl ?_ (by assumption) ?_
      rotate_left
      · (intro w hSw; (try dsimp only at hSw); go_simp; all_goals with_reducible rfl)
      try simp only [Act.put, sA, sB, sC]
      refine wpAnyH_ready (rs := [5]) (by kernel_rfl) (by simp) ?_
      refine AllReadyH.cons rfl (fun K hK => ?_) AllReadyH.nil
      go_simp
      refine (Root_is ((100000000 - (b : Int)) * 50000000) ((100000000 - b) * 50000000) r2 _ (by omega) (by omega) qr2).mono ?_
      rintro e w' ⟨rfl, rfl⟩
      go_wp2_with fail
      refine hK.out _ _ (by simp [go_sem, World.cell?_alloc_past, *]) (fun hHeld => ?_)
      clear hK K
      try simp only [Act.put, sA, sB, sC]
      refine wpAnyH_ready (rs := [10]) (by kernel_rfl) (by simp) ?_
      refine AllReadyH.cons rfl (fun K hK => ?_) AllReadyH.nil
      go_simp
      refine (up2_is ((100000000 - (a : Int)) * 50000000) ((100000000 - a) * 50000000) r3 _ (by omega) (by omega) qr3).mono ?_
      rintro e w' ⟨rfl, rfl⟩
      go_wp2_with fail
      refine hK.out _ _ (by simp [go_sem, World.cell?_alloc_past, *]) (fun hHeld => ?_)
      clear hK K
      try simp only [Act.put, sA, sB, sC]
      refine tkH 11 ⟨some 40, _, _, _, _, _⟩ ?_ rfl ?_ (by assumption) ?_
      rotate_left
      · (intro w hSw; (try dsimp only at hSw); go_simp; all_goals with_reducible rfl)
      try simp only [Act.put, sA, sB, sC]
      refine tkH 12 ⟨some 41, _, _, _, _, _⟩ ?_ rfl ?_ (by assumption) ?_
      rotate_left
      · (intro w hSw; (try dsimp only at hSw); go_simp; all_goals with_reducible rfl)
      try simp only [Act.put, sA, sB, sC]
      refine wpAnyH_ready (rs := [13]) (by kernel_rfl) (by simp) ?_
      refine AllReadyH.cons rfl (fun K hK => ?_) AllReadyH.nil
      go_simp
      go_wp2_with fail
      refine hK.out _ _ (by simp [go_sem, World.cell?_alloc_past, *]) (fun hHeld => ?_)
      clear hK K
      try simp only [Act.put, sA, sB, sC]
      refine wpAnyH_done (by kernel_rfl) ?_ _
      go_wp2
      go_roundw
      case rel =>
        have hr := HS2.out
        unfold put2 at hr
        have sr := hr.sz
        exact ⟨k + 1, by go_num, by omega, by omega, Lib.hid (hr.below (by (repeat (first | (with_reducible refine Below.drew ?_) | (with_reducible refine below_drewN ?_ _) | (with_reducible refine Below.alloc ?_ (by first | omega | (simp; done) | (simp; omega) | (simp at *; omega)) _) | (with_reducible refine Below.setCell ?_ (by first | omega | (simp; done) | (simp; omega) | (simp at *; omega)) _) | (with_reducible exact Below.refl _ _) | (with_reducible assumption) | (with_reducible refine Below.trans ?_ (Below.mono (by assumption) (by first | omega | (simp; done) | (simp; omega) | (simp at *; omega))))))))⟩
      case measure => (simp [intOf]) <;> omega
    · have hkk : k = 11 := by omega
      subst hkk
      have HC := Lib.hid (pairs_at (f := cPr) (fun _ => rfl) HS.out.c)
      have HN := Lib.hid (pairs_at (f := sPr) (fun _ => rfl) HS.out.s)
      have l0 : (w.heap.size + 1 + 1 ≠ w.heap.size) := by omega
      have HT0 : Hid (wr.drew.there w.heap.size 0 cHV.toArray.size) := Lib.hid (by rw [World.there_drew]; exact HS.out.t0)
      have HT1 : Hid (wr.drew.there (w.heap.size + 1) 0 sHV.toArray.size) := Lib.hid (by rw [World.there_drew]; exact HS.out.t1)
      go_upto_region 9 with (fail)
      refine wp_region_held_drew (S := fun w' => w'.rangeAt (w.heap.size + 1 + 1) 0 cHV ∧ w'.rangeAt (w.heap.size + 1 + 1 + 1) 0 sHV) (by kernel_rfl) (by rw [World.rangeAt_drew, World.rangeAt_drew]; exact ⟨HC.out, HN.out⟩) (fun hHeld => ?_)
      refine wpAnyH_take (i := 0) (oi := ⟨some 42, _, _, _, _, _⟩) rfl (by kernel_rfl) (by kernel_rfl) (by kernel_rfl) (fun _ _ _ h => h) (yieldsIf_load_mid (by rfl) 209 _ rfl (w.heap.size + 1 + 1) 0 rfl cHV _ (fun _ h => h.1) Tryz.underlying209 rfl (by kernel_rfl)) (by assumption) ?_
      try simp only [Act.put, sA, sB, sC]
      refine wpAnyH_take (i := 1) (oi := ⟨some 43, _, _, _, _, _⟩) rfl (by kernel_rfl) (by kernel_rfl) (by kernel_rfl) (fun _ _ _ h => h) (yieldsIf_load_mid (by rfl) 209 _ rfl (w.heap.size + 1 + 1 + 1) 0 rfl sHV _ (fun _ h => h.2) Tryz.underlying209 rfl (by kernel_rfl)) (by assumption) ?_
      try simp only [Act.put, sA, sB, sC]
      refine wpAnyH_ready (rs := [2]) (by kernel_rfl) (by simp) ?_
      refine AllReadyH.cons rfl (fun K hK => ?_) AllReadyH.nil
      refine if_pos_k (by kernel_rfl) ?_
      with_reducible refine wp_store_mid 209 _ _ rfl w.heap.size 0 cHV.toArray rfl rfl HT0.out (by kernel_rfl) (all_oneCell_toArray cHV_one) ?_
      have hh : (fun w' : World => w'.rangeAt (w.heap.size + 1 + 1) 0 cHV ∧ w'.rangeAt (w.heap.size + 1 + 1 + 1) 0 sHV) (wr.drew.setCells w.heap.size 0 cHV.toArray.toList) := ⟨World.rangeAt_setCells_apart hHeld.1 _ _ _ (Or.inl (by omega)), World.rangeAt_setCells_apart hHeld.2 _ _ _ (Or.inl (by omega))⟩
      have g0 : (wr.drew.setCells w.heap.size 0 cHV.toArray.toList).rangeAt w.heap.size 0 cHV := World.rangeAt_setCells_same _ _ 0 cHV HT0.out
      have g1 : (wr.drew.setCells w.heap.size 0 cHV.toArray.toList).there (w.heap.size + 1) 0 sHV.toArray.size := World.there_setCells HT1.out _ _ _
      have g2 : Below w.heap.size w (wr.drew.setCells w.heap.size 0 cHV.toArray.toList) := below_setCells (Nat.le_refl _) _ _ HS.out.be.drew
      have hk2 := hK.out
      clear hK HT0 HT1
      generalize wr.drew.setCells w.heap.size 0 cHV.toArray.toList = W1 at hh g0 g1 g2 ⊢
      refine hk2 _ _ hh (fun hHeld2 => ?_)
      clear hk2 K
      have hh := Lib.hid hh
      have g0 := Lib.hid g0
      have g1 := Lib.hid g1
      try simp only [Act.put, sA, sB, sC]
      refine wpAnyH_ready (rs := [3]) (by kernel_rfl) (by simp) ?_
      refine AllReadyH.cons rfl (fun K hK => ?_) AllReadyH.nil
      refine if_pos_k (by kernel_rfl) ?_
      with_reducible refine wp_store_mid 209 _ _ rfl (w.heap.size + 1) 0 sHV.toArray rfl rfl g1.out (by kernel_rfl) (all_oneCell_toArray sHV_one) ?_
      have hh2 : (fun w' : World => w'.rangeAt (w.heap.size + 1 + 1) 0 cHV ∧ w'.rangeAt (w.heap.size + 1 + 1 + 1) 0 sHV) (W1.setCells (w.heap.size + 1) 0 sHV.toArray.toList) := ⟨World.rangeAt_setCells_apart hh.out.1 _ _ _ (Or.inl (by omega)), World.rangeAt_setCells_apart hh.out.2 _ _ _ (Or.inl (by omega))⟩
      have hl0 := run_loadVar_mid (P := Tryz.prog) (W1.setCells (w.heap.size + 1) 0 sHV.toArray.toList) w.heap.size 0 209 cHV _ (World.rangeAt_setCells_apart g0.out _ _ _ (Or.inl (by omega))) Tryz.underlying209 rfl (by kernel_rfl)
      have hl1 := run_loadVar_mid (P := Tryz.prog) (W1.setCells (w.heap.size + 1) 0 sHV.toArray.toList) (w.heap.size + 1) 0 209 sHV _ (World.rangeAt_setCells_same _ _ 0 sHV g1.out) Tryz.underlying209 rfl (by kernel_rfl)
      have g3 : Below w.heap.size w (W1.setCells (w.heap.size + 1) 0 sHV.toArray.toList) := below_setCells (by omega) _ _ g2
      have hk2 := hK.out
      clear hK g1
      generalize W1.setCells (w.heap.size + 1) 0 sHV.toArray.toList = W2 at hh2 hl0 hl1 g3 ⊢
      refine hk2 _ _ hh2 (fun hHeld3 => ?_)
      clear hk2 K
      have hl0 := Lib.hid hl0
      have hl1 := Lib.hid hl1
      try simp only [Act.put, sA, sB, sC]
      refine wpAnyH_done (by kernel_rfl) ?_ _
      go_wp2
      refine bodyPost_ret (v := .tuple #[.agg cHV.toArray, .agg sHV.toArray]) (results_mid2 Tryz.results177 rfl rfl hl0.out hl1.out) rfl ⟨rfl, g3⟩
end Go.Proofs.YtojaompfffpofaaGreat
