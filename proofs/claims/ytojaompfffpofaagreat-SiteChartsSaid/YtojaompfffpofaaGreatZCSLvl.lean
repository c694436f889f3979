import Derived.Test.YtojaompfffpofaaGreatZCSCosw
import Derived.Test.YtojaompfffpofaaGreatZCSWave
import Derived.Outline
namespace Go.Proofs.YtojaompfffpofaaGreat
open Go.ChangeShapes Go.WideShapes Go.ChangeAt Go.RowKit
set_option linter.unusedVariables false
set_option linter.unusedSimpArgs false
attribute [local go_sem ↓] Go.wp_at_zero Go.wp_at_succ
theorem halved_lit (w : World) : Calls Tryz.prog 108 #[] w fun e w' => e = .returned (.agg #[.int .i64 0, .int .i64 0, .int .i64 100000000, .int .i64 100000000, .int .i64 70710678, .int .i64 70710679, .int .i64 70710678, .int .i64 70710679, .int .i64 92387953, .int .i64 92387954, .int .i64 38268342, .int .i64 38268344, .int .i64 98078527, .int .i64 98078529, .int .i64 19509031, .int .i64 19509033, .int .i64 99518472, .int .i64 99518473, .int .i64 9801711, .int .i64 9801717, .int .i64 99879545, .int .i64 99879546, .int .i64 4906765, .int .i64 4906771, .int .i64 99969881, .int .i64 99969882, .int .i64 2454118, .int .i64 2454130, .int .i64 99992469, .int .i64 99992471, .int .i64 1227151, .int .i64 1227172, .int .i64 99998117, .int .i64 99998118, .int .i64 613555, .int .i64 613637, .int .i64 99999529, .int .i64 99999530, .int .i64 306757, .int .i64 306839, .int .i64 99999882, .int .i64 99999883, .int .i64 153297, .int .i64 153461]) ∧ Below w.heap.size w w' := halved_any w
theorem hvV_rows : hvV = rowsV ptV hvL := rfl
theorem hvA_new (w : World) (x y : Value) (T : TypeId) : HvA (w.alloc (.cells ([x, y] ++ hvV).toArray T)) w.heap.size 2 := by
  intro j hj i v hi
  have hi4 : i < 4 := (List.getElem?_eq_some_iff.1 hi).1
  have h := rowsV_at (f := ptV) (n := 4) (fun _ => rfl) (L := hvL) (k := j) hj hi4
  have e : hv j = hvL[j]'hj := by unfold hv; rw [List.getD_eq_getElem?_getD, List.getElem?_eq_getElem hj]; rfl
  rw [e] at hi
  rw [hi, ← hvV_rows] at h
  have h2 : ([x, y] ++ hvV)[2 + j * 4 + i]? = some v := by
    rw [List.getElem?_append_right (by simp; omega)]
    rw [show 2 + j * 4 + i - [x, y].length = j * 4 + i by simp; omega]; exact h
  rw [World.cell?_alloc_new]
  simpa using h2
/-- A tide that is new: its block holds the table and the halves. -/
def NewT (w : World) (m : Int) (A : Option Addr) (n cap : Nat) (e : Ending) (w' : World) : Prop := ∃ b : Nat, e = .returned (.pointer (some ⟨b, 0, none⟩)) ∧ w.heap.size ≤ b ∧ b < w'.heap.size ∧ w'.cell? ⟨b, 0, none⟩ = some (.int .i64 m) ∧ w'.cell? ⟨b, 1, none⟩ = some (.slice A n cap) ∧ HvA w' b 2 ∧ Below w.heap.size w w'
set_option maxRecDepth 100000 in
set_option maxHeartbeats 4000000 in
theorem newTide_any (m : Int) (A : Option Addr) (n cap : Nat) (w : World) :
    Calls Tryz.prog 68 #[.agg #[.int .i64 m, .slice A n cap]] w (NewT w m A n cap) := by
  go_enter Tryz.func68, Tryz.ntmps68
  go_upto_region 1 with (fail)
  refine wp_region_held_drew (S := (fun w' => w'.cell? ⟨w.heap.size, 0, none⟩ = some (.int .i64 m) ∧ w'.cell? ⟨w.heap.size, 1, none⟩ = some (.slice A n cap))) (by kernel_rfl) (by simp [go_sem, World.cell?_alloc_past, *]) (fun hHeld => ?_)
  refine tkH 0 ⟨some 3, _, _, _, _, _⟩ ?_ rfl ?_ (by assumption) ?_
  rotate_left
  · (intro w hSw; (try dsimp only at hSw); go_simp; all_goals with_reducible rfl)
  try simp only [Act.put, sA, sB, sC]
  refine wpAnyH_ready (rs := [1]) (by kernel_rfl) (by simp) ?_
  refine AllReadyH.cons rfl (fun K hK => ?_) AllReadyH.nil
  go_simp
  refine (halved_lit _).mono ?_
  rintro e w1 ⟨rfl, hb1⟩
  have z1 := hb1.size
  try simp at z1
  have c0 : w1.cell? ⟨w.heap.size, 0, none⟩ = some (.int .i64 m) := by rw [(bcell hb1).1 _ _ (by first | (simp; done) | (simp; omega) | omega)]; simp [go_sem, World.cell?_alloc_past, *]
  have c1 : w1.cell? ⟨w.heap.size, 1, none⟩ = some (.slice A n cap) := by rw [(bcell hb1).1 _ _ (by first | (simp; done) | (simp; omega) | omega)]; simp [go_sem, World.cell?_alloc_past, *]
  have o1 : w.heap.size < w1.heap.size := by omega
  have o2 : w1.heap.size ≠ w.heap.size := by omega
  have hB1 : Below w.heap.size w w1 := (by (repeat (first | (with_reducible refine Below.drew ?_) | (with_reducible refine below_drewN ?_ _) | (with_reducible refine Below.alloc ?_ (by first | omega | (simp; done) | (simp; omega) | (simp at *; omega)) _) | (with_reducible refine Below.setCell ?_ (by first | omega | (simp; done) | (simp; omega) | (simp at *; omega)) _) | (with_reducible exact Below.refl _ _) | (with_reducible assumption) | (with_reducible refine Below.trans ?_ (Below.mono (by assumption) (by first | omega | (simp; done) | (simp; omega) | (simp at *; omega)))))))
  clear hb1
  go_wp2_with fail
  refine hK.out _ _ (by simp [go_sem, World.cell?_alloc_past, *]) (fun hHeld => ?_)
  clear hK K
  try simp only [Act.put, sA, sB, sC]
  refine tkH 2 ⟨some 5, _, _, _, _, _⟩ ?_ rfl ?_ (by assumption) ?_
  rotate_left
  · (intro w hSw; (try dsimp only at hSw); go_simp; all_goals with_reducible rfl)
  try simp only [Act.put, sA, sB, sC]
  refine wpAnyH_ready (rs := [3]) (by kernel_rfl) (by simp) ?_
  refine AllReadyH.cons rfl (fun K hK => ?_) AllReadyH.nil
  go_simp
  go_wp2_with fail
  refine hK.out _ _ (by simp [go_sem, World.cell?_alloc_past, *]) (fun hHeld => ?_)
  clear hK K
  try simp only [Act.put, sA, sB, sC]
  refine tkH 4 ⟨some 2, _, _, _, _, _⟩ ?_ rfl ?_ (by assumption) ?_
  rotate_left
  · (intro w hSw; (try dsimp only at hSw); go_simp; all_goals with_reducible rfl)
  try simp only [Act.put, sA, sB, sC]
  refine wpAnyH_done (by kernel_rfl) ?_ _
  go_wp2
  go_ret
  refine ⟨w1.heap.size, rfl, by omega, by simp, by simp [go_sem], by simp [go_sem], ?_, (by (repeat (first | (with_reducible refine Below.drew ?_) | (with_reducible refine below_drewN ?_ _) | (with_reducible refine Below.alloc ?_ (by first | omega | (simp; done) | (simp; omega) | (simp at *; omega)) _) | (with_reducible refine Below.setCell ?_ (by first | omega | (simp; done) | (simp; omega) | (simp at *; omega)) _) | (with_reducible exact Below.refl _ _) | (with_reducible assumption) | (with_reducible refine Below.trans ?_ (Below.mono (by assumption) (by first | omega | (simp; done) | (simp; omega) | (simp at *; omega)))))))⟩
  have := hvA_new w1 (.int .i64 m) (.slice A n cap) 160
  intro j hj
  first | exact (this j hj) | (rw [World.rangeAt_drew]; exact this j hj)
theorem cosineAt_is (b : Nat) (h p f t x y : Int) (w : World) (hw : WvOk ⟨h, p, f⟩) (t0 : 0 ≤ t) (t1 : t ≤ 2000000) (hb : b < w.heap.size) (H : Hid (HvA w b 2)) (hc : Hid (cosW ⟨h, p, f⟩ t = (x, y))) :
    Calls Tryz.prog 111 #[.pointer (some ⟨b, 0, none⟩), .agg #[.int .i64 h, .int .i64 p, .int .i64 f], .int .i64 t] w fun e w' => e = .returned (.agg #[.int .i64 x, .int .i64 y]) ∧ Below w.heap.size w w' := by
  have := cosineAt_any b h p f t w hw t0 t1 hb H
  rw [hc.out] at this; exact this
theorem take_sum {L : List Wv} {k : Nat} (hk : k < L.length) (t : Int) : sumLo (L.take (k + 1)) t = sumLo (L.take k) t + L[k].h * (cosW L[k] t).1 ∧ sumHi (L.take (k + 1)) t = sumHi (L.take k) t + L[k].h * (cosW L[k] t).2 := by
  rw [List.take_succ_eq_append_getElem hk]
  exact ⟨sumLo_snoc _ _ _, sumHi_snoc _ _ _⟩
set_option maxRecDepth 100000 in
set_option maxHeartbeats 8000000 in
theorem level_any (m : Int) (L : List Wv) (b bl off cap n : Nat) (t : Int) (w : World) (hn : Hid (n = L.length)) (hl : n ≤ 10) (hL : ∀ x ∈ L, WvOk x) (m0 : -100000 ≤ m) (m1 : m ≤ 100000) (t0 : 0 ≤ t) (t1 : t ≤ 2000000) (hb : b < w.heap.size) (hbl : bl < w.heap.size) (HL : Hid (RowsAt wvV 3 w bl off L))
    (cm : w.cell? ⟨b, 0, none⟩ = some (.int .i64 m)) (cs : w.cell? ⟨b, 1, none⟩ = some (.slice (some ⟨bl, off, none⟩) n cap)) (H : Hid (HvA w b 2)) :
    Calls Tryz.prog 72 #[.pointer (some ⟨b, 0, none⟩), .int .i64 t] w fun e w' => e = .returned (.agg #[.int .i64 (levLo m L t), .int .i64 (levHi m L t)]) ∧ Below w.heap.size w w' := by
  obtain ⟨E0, hE0⟩ : ∃ z, Hid (levLo m L t = z) := ⟨_, Lib.hid rfl⟩
  obtain ⟨E1, hE1⟩ : ∃ z, Hid (levHi m L t = z) := ⟨_, Lib.hid rfl⟩
  rw [hE0.out, hE1.out]
  have HW := Lib.hid hL
  clear hL
  have HA : Hid (∀ w' : World, Below w.heap.size w w' → HvA w' b 2) := Lib.hid fun w' hB => H.out.below hB hb
  have HR : Hid (∀ w' : World, Below w.heap.size w w' → RowsAt wvV 3 w' bl off L) := Lib.hid fun w' hB => HL.out.below hB hbl
  have b1 : b < w.heap.size + 1 := by omega
  have b2 : b ≠ w.heap.size := by omega
  have b3 : w.heap.size ≠ b := by omega
  have b4 : b ≠ w.heap.size + 1 := by omega
  have b5 : w.heap.size + 1 ≠ b := by omega
  go_enter Tryz.func72, Tryz.ntmps72
  go_wp2
  go_loopw [15] (fun i wr => ∃ (k : Nat) (s0 s1 : Int), i = .int .i64 k ∧ k ≤ n ∧ Hid (sumLo (L.take k) t = s0) ∧ Hid (sumHi (L.take k) t = s1) ∧ wr.cell? ⟨w.heap.size + 1, 0, none⟩ = some (.int .i64 s0) ∧ wr.cell? ⟨w.heap.size + 1, 1, none⟩ = some (.int .i64 s1) ∧ (∀ j, wr.frozen? ⟨w.heap.size + 1, j, none⟩ = false) ∧ wr.cell? ⟨w.heap.size, 0, none⟩ = some (.int .i64 0) ∧ wr.cell? ⟨w.heap.size, 1, none⟩ = some (.int .i64 0) ∧ (∀ j, wr.frozen? ⟨w.heap.size, j, none⟩ = false) ∧ w.heap.size + 2 ≤ wr.heap.size ∧ Below w.heap.size w wr) (fun i _ => n - (intOf i).toNat)
  case atStart => exact ⟨0, 0, 0, rfl, by omega, Lib.hid rfl, Lib.hid rfl, by simp [go_sem], by simp [go_sem], by intro j; simp [go_sem], by simp [go_sem, World.cell?_alloc_past], by simp [go_sem, World.cell?_alloc_past], by intro j; simp [go_sem], by simp, (by (repeat (first | (with_reducible refine Below.drew ?_) | (with_reducible refine below_drewN ?_ _) | (with_reducible refine Below.alloc ?_ (by first | omega | (simp; done) | (simp; omega) | (simp at *; omega)) _) | (with_reducible refine Below.setCell ?_ (by first | omega | (simp; done) | (simp; omega) | (simp at *; omega)) _) | (with_reducible exact Below.refl _ _) | (with_reducible assumption) | (with_reducible refine Below.trans ?_ (Below.mono (by assumption) (by first | omega | (simp; done) | (simp; omega) | (simp at *; omega)))))))⟩
  case round =>
    obtain ⟨k, s0, s1, rfl, hk, hs0, hs1, c0, c1, fz, r0, r1, fr, sz, hB⟩ := hrel
    have n1 : w.heap.size + 1 < wr.heap.size := by omega
    have n2 : w.heap.size < wr.heap.size := by omega
    have n3 : wr.heap.size ≠ w.heap.size + 1 := by omega
    have n4 : wr.heap.size ≠ w.heap.size := by omega
    have n5 : b < wr.heap.size := by omega
    have n6 : w.heap.size + 1 ≠ wr.heap.size := by omega
    have n7 : w.heap.size ≠ wr.heap.size := by omega
    have bd := sum_bd (L := L.take k) (fun x hx => HW.out x (List.mem_of_mem_take hx)) t
    rw [hs0.out, hs1.out] at bd
    obtain ⟨d1, d2, d3⟩ := bd
    have hlen : ((L.take k).length : Int) ≤ 10 := by rw [List.length_take]; omega
    have d4 : -100000000000000 ≤ s0 := by omega
    have d5 : s1 ≤ 100000000000000 := by omega
    have dm := hB.cell (p := ⟨b, 0, none⟩) hb
    rw [cm] at dm
    clear d1 d3 hlen
    by_cases hkn : k < n
    · have hkl : k < L.length := by have := hn.out; omega
      have kn : (k : Int) < (n : Int) := by omega
      obtain ⟨e0, e1, e2⟩ := wv_at (HR.out _ hB) hkl
      have hok := HW.out _ (List.getElem_mem hkl)
      obtain ⟨u1, u2⟩ := take_sum hkl t
      obtain ⟨⟨h, p, f⟩, hq⟩ : ∃ x, Hid (L[k] = x) := ⟨L[k], Lib.hid rfl⟩
      rw [hq.out] at e0 e1 e2 hok u1 u2
      dsimp only at e0 e1 e2 u1 u2
      obtain ⟨⟨a, c⟩, hac⟩ : ∃ q, Hid (cosW ⟨h, p, f⟩ t = q) := ⟨_, Lib.hid rfl⟩
      have cb := cosW_bd ⟨h, p, f⟩ t
      rw [hac.out, hs0.out] at u1
      rw [hac.out, hs1.out] at u2
      rw [hac.out] at cb
      dsimp only at u1 u2 cb
      obtain ⟨cb1, cb2, cb3⟩ := cb
      have q1 := hmul_bd hok.h0 hok.h1 cb1 (by omega)
      have q2 := hmul_bd hok.h0 hok.h1 (by omega : -100000000 ≤ c) cb3
      dsimp only at q1 q2
      obtain ⟨g1, hg1⟩ : ∃ z, Hid (h * a = z) := ⟨_, Lib.hid rfl⟩
      obtain ⟨g2, hg2⟩ : ∃ z, Hid (h * c = z) := ⟨_, Lib.hid rfl⟩
      rw [hg1.out] at q1 u1
      rw [hg2.out] at q2 u2
      obtain ⟨q11, q12⟩ := q1
      obtain ⟨q21, q22⟩ := q2
      have w1 : IntKind.i64.wrap (h * a) = g1 := by rw [hg1.out]; exact IntWalk.i64_in _ (by omega)
      have w2 : IntKind.i64.wrap (h * c) = g2 := by rw [hg2.out]; exact IntWalk.i64_in _ (by omega)
      have w1' : wrap64 (h * a) = g1 := (IntWalk.i64_left _).symm.trans w1
      have w2' : wrap64 (h * c) = g2 := (IntWalk.i64_left _).symm.trans w2
      have w3 : IntKind.i64.wrap (s0 + g1) = s0 + g1 := IntWalk.i64_in _ (by omega)
      have w4 : IntKind.i64.wrap (s1 + g2) = s1 + g2 := IntWalk.i64_in _ (by omega)
      have U1 := Lib.hid u1
      have U2 := Lib.hid u2
      clear u1 u2 hs0 hs1 cb1 cb2 cb3 hg1 hg2
      go_wp2_with fail
      refine (cosineAt_is b h p f t a c _ hok t0 t1 (by first | omega | (simp; omega)) (Lib.hid (HA.out _ (by (repeat (first | (with_reducible refine Below.drew ?_) | (with_reducible refine below_drewN ?_ _) | (with_reducible refine Below.alloc ?_ (by first | omega | (simp; done) | (simp; omega) | (simp at *; omega)) _) | (with_reducible refine Below.setCell ?_ (by first | omega | (simp; done) | (simp; omega) | (simp at *; omega)) _) | (with_reducible exact Below.refl _ _) | (with_reducible assumption) | (with_reducible refine Below.trans ?_ (Below.mono (by assumption) (by first | omega | (simp; done) | (simp; omega) | (simp at *; omega))))))))) hac).mono ?_
      rintro e xw1 ⟨rfl, hbx1⟩
      have zx1 := hbx1.size
      try simp at zx1
      obtain ⟨x1_0_0, x1_0_1, x1_1_0, x1_1_1, x1_2_0, x1_2_1, x1_2_2⟩ : xw1.cell? ⟨w.heap.size, 0, none⟩ = some (.int .i64 0) ∧ xw1.cell? ⟨w.heap.size, 1, none⟩ = some (.int .i64 0) ∧ xw1.cell? ⟨w.heap.size + 1, 0, none⟩ = some (.int .i64 s0) ∧ xw1.cell? ⟨w.heap.size + 1, 1, none⟩ = some (.int .i64 s1) ∧ xw1.cell? ⟨wr.heap.size, 0, none⟩ = some (.int .i64 h) ∧ xw1.cell? ⟨wr.heap.size, 1, none⟩ = some (.int .i64 p) ∧ xw1.cell? ⟨wr.heap.size, 2, none⟩ = some (.int .i64 f) := by refine ⟨?_, ?_, ?_, ?_, ?_, ?_, ?_⟩ <;> (rw [(bcell hbx1).1 _ _ (by first | (simp; done) | (simp; omega) | omega)]; simp [go_sem, World.cell?_alloc_past, *])
      obtain ⟨x1f0, x1f1⟩ : (∀ j, xw1.frozen? ⟨w.heap.size, j, none⟩ = false) ∧ (∀ j, xw1.frozen? ⟨w.heap.size + 1, j, none⟩ = false) := by refine ⟨?_, ?_⟩ <;> (intro j; rw [(bcell hbx1).2 _ _ (by first | (simp; done) | (simp; omega) | omega)]; simp [go_sem, *])
      obtain ⟨x1o0, x1n0, x1m0, x1t0_0, x1t0_1, x1o1, x1n1, x1m1, x1t1_0, x1t1_1, x1o2, x1n2, x1m2, x1t2_0, x1t2_1⟩ : w.heap.size < xw1.heap.size ∧ xw1.heap.size ≠ w.heap.size ∧ w.heap.size ≠ xw1.heap.size ∧ w.heap.size < xw1.heap.size + 1 ∧ w.heap.size < xw1.heap.size + 1 + 1 ∧ w.heap.size + 1 < xw1.heap.size ∧ xw1.heap.size ≠ w.heap.size + 1 ∧ w.heap.size + 1 ≠ xw1.heap.size ∧ w.heap.size + 1 < xw1.heap.size + 1 ∧ w.heap.size + 1 < xw1.heap.size + 1 + 1 ∧ wr.heap.size < xw1.heap.size ∧ xw1.heap.size ≠ wr.heap.size ∧ wr.heap.size ≠ xw1.heap.size ∧ wr.heap.size < xw1.heap.size + 1 ∧ wr.heap.size < xw1.heap.size + 1 + 1 := by refine ⟨?_, ?_, ?_, ?_, ?_, ?_, ?_, ?_, ?_, ?_, ?_, ?_, ?_, ?_, ?_⟩ <;> omega
      have hBx1 : Below w.heap.size w xw1 := (by (repeat (first | (with_reducible refine Below.drew ?_) | (with_reducible refine below_drewN ?_ _) | (with_reducible refine Below.alloc ?_ (by first | omega | (simp; done) | (simp; omega) | (simp at *; omega)) _) | (with_reducible refine Below.setCell ?_ (by first | omega | (simp; done) | (simp; omega) | (simp at *; omega)) _) | (with_reducible exact Below.refl _ _) | (with_reducible assumption) | (with_reducible refine Below.trans ?_ (Below.mono (by assumption) (by first | omega | (simp; done) | (simp; omega) | (simp at *; omega)))))))
      clear hbx1 
      go_wp2
      go_roundw
      case rel => exact ⟨k + 1, s0 + g1, s1 + g2, by go_num, by omega, U1, U2, by simp [go_sem, *], by simp [go_sem, *], by intro j; simp [go_sem, *], by simp [go_sem, *], by simp [go_sem, *], by intro j; simp [go_sem, *], by simp; omega, (by (repeat (first | (with_reducible refine Below.drew ?_) | (with_reducible refine below_drewN ?_ _) | (with_reducible refine Below.alloc ?_ (by first | omega | (simp; done) | (simp; omega) | (simp at *; omega)) _) | (with_reducible refine Below.setCell ?_ (by first | omega | (simp; done) | (simp; omega) | (simp at *; omega)) _) | (with_reducible exact Below.refl _ _) | (with_reducible assumption) | (with_reducible refine Below.trans ?_ (Below.mono (by assumption) (by first | omega | (simp; done) | (simp; omega) | (simp at *; omega)))))))⟩
      case measure => (simp [intOf]) <;> omega
    · have hkk : k = n := by omega
      subst hkk
      have hs2 := hs0.out
      have hs3 := hs1.out
      rw [hn.out, List.take_length] at hs2 hs3
      obtain ⟨z0, hz0⟩ : ∃ z, Hid (dnO s0 = z) := ⟨_, Lib.hid rfl⟩
      obtain ⟨z1, hz1⟩ : ∃ z, Hid (upO s1 = z) := ⟨_, Lib.hid rfl⟩
      have zb : -100000000 ≤ z0 ∧ z0 ≤ 100000000 ∧ -100000000 ≤ z1 ∧ z1 ≤ 100000000 := by
        rw [← hz0.out, ← hz1.out]; unfold dnO upO; omega
      obtain ⟨zb1, zb2, zb3, zb4⟩ := zb
      have R0 : Hid (E0 = m + z0) := Lib.hid (by rw [← hE0.out]; unfold levLo; rw [hs2, hz0.out])
      have R1 : Hid (E1 = m + z1) := Lib.hid (by rw [← hE1.out]; unfold levHi; rw [hs3, hz1.out])
      have w1 : IntKind.i64.wrap (m + z0) = m + z0 := IntWalk.i64_in _ (by omega)
      have w2 : IntKind.i64.wrap (m + z1) = m + z1 := IntWalk.i64_in _ (by omega)
      clear hs0 hs1 hs2 hs3 hE0 hE1
      go_upto_region 9 with (fail)
      refine wp_region_held_drew (S := (fun w' => w'.cell? ⟨b, 0, none⟩ = some (.int .i64 m) ∧ w'.cell? ⟨w.heap.size + 1, 0, none⟩ = some (.int .i64 s0) ∧ w'.cell? ⟨w.heap.size + 1, 1, none⟩ = some (.int .i64 s1))) (by kernel_rfl) (by simp [go_sem, World.cell?_alloc_past, *]) (fun hHeld => ?_)
      refine tkH 0 ⟨some 42, _, _, _, _, _⟩ ?_ rfl ?_ (by assumption) ?_
      rotate_left
      · (intro w hSw; (try dsimp only at hSw); go_simp; all_goals with_reducible rfl)
      try simp only [Act.put, sA, sB, sC]
      refine tkH 1 ⟨some 43, _, _, _, _, _⟩ ?_ rfl ?_ (by assumption) ?_
      rotate_left
      · (intro w hSw; (try dsimp only at hSw); go_simp; all_goals with_reducible rfl)
      try simp only [Act.put, sA, sB, sC]
      refine tkH 2 ⟨some 44, _, _, _, _, _⟩ ?_ rfl ?_ (by assumption) ?_
      rotate_left
      · (intro w hSw; (try dsimp only at hSw); go_simp; all_goals with_reducible rfl)
      try simp only [Act.put, sA, sB, sC]
      refine tkH 3 ⟨some 45, _, _, _, _, _⟩ ?_ rfl ?_ (by assumption) ?_
      rotate_left
      · (intro w hSw; (try dsimp only at hSw); go_simp; all_goals with_reducible rfl)
      try simp only [Act.put, sA, sB, sC]
      refine tkH 4 ⟨some 46, _, _, _, _, _⟩ ?_ rfl ?_ (by assumption) ?_
      rotate_left
      · (intro w hSw; (try dsimp only at hSw); go_simp; all_goals with_reducible rfl)
      try simp only [Act.put, sA, sB, sC]
      refine tkH 5 ⟨some 47, _, _, _, _, _⟩ ?_ rfl ?_ (by assumption) ?_
      rotate_left
      · (intro w hSw; (try dsimp only at hSw); go_simp; all_goals with_reducible rfl)
      try simp only [Act.put, sA, sB, sC]
      refine tkH 6 ⟨some 48, _, _, _, _, _⟩ ?_ rfl ?_ (by assumption) ?_
      rotate_left
      · (intro w hSw; (try dsimp only at hSw); go_simp; all_goals with_reducible rfl)
      try simp only [Act.put, sA, sB, sC]
      refine tkH 9 ⟨some 51, _, _, _, _, _⟩ ?_ rfl ?_ (by assumption) ?_
      rotate_left
      · (intro w hSw; (try dsimp only at hSw); go_simp; all_goals with_reducible rfl)
      try simp only [Act.put, sA, sB, sC]
      refine tkH 10 ⟨some 52, _, _, _, _, _⟩ ?_ rfl ?_ (by assumption) ?_
      rotate_left
      · (intro w hSw; (try dsimp only at hSw); go_simp; all_goals with_reducible rfl)
      try simp only [Act.put, sA, sB, sC]
      refine tkH 11 ⟨some 53, _, _, _, _, _⟩ ?_ rfl ?_ (by assumption) ?_
      rotate_left
      · (intro w hSw; (try dsimp only at hSw); go_simp; all_goals with_reducible rfl)
      try simp only [Act.put, sA, sB, sC]
      refine tkH 12 ⟨some 54, _, _, _, _, _⟩ ?_ rfl ?_ (by assumption) ?_
      rotate_left
      · (intro w hSw; (try dsimp only at hSw); go_simp; all_goals with_reducible rfl)
      try simp only [Act.put, sA, sB, sC]
      refine tkH 13 ⟨some 55, _, _, _, _, _⟩ ?_ rfl ?_ (by assumption) ?_
      rotate_left
      · (intro w hSw; (try dsimp only at hSw); go_simp; all_goals with_reducible rfl)
      try simp only [Act.put, sA, sB, sC]
      refine tkH 14 ⟨some 56, _, _, _, _, _⟩ ?_ rfl ?_ (by assumption) ?_
      rotate_left
      · (intro w hSw; (try dsimp only at hSw); go_simp; all_goals with_reducible rfl)
      try simp only [Act.put, sA, sB, sC]
      refine tkH 15 ⟨some 57, _, _, _, _, _⟩ ?_ rfl ?_ (by assumption) ?_
      rotate_left
      · (intro w hSw; (try dsimp only at hSw); go_simp; all_goals with_reducible rfl)
      try simp only [Act.put, sA, sB, sC]
      refine wpAnyH_ready (rs := [7]) (by kernel_rfl) (by simp) ?_
      refine AllReadyH.cons rfl (fun K hK => ?_) AllReadyH.nil
      go_simp
      refine (down_is s0 z0 _ (by omega) (by omega) hz0).mono ?_
      rintro e w' ⟨rfl, rfl⟩
      go_wp2_with fail
      refine hK.out _ _ (by simp [go_sem, World.cell?_alloc_past, *]) (fun hHeld => ?_)
      clear hK K
      try simp only [Act.put, sA, sB, sC]
      refine tkH 8 ⟨some 50, _, _, _, _, _⟩ ?_ rfl ?_ (by assumption) ?_
      rotate_left
      · (intro w hSw; (try dsimp only at hSw); go_simp; all_goals with_reducible rfl)
      try simp only [Act.put, sA, sB, sC]
      refine wpAnyH_ready (rs := [16]) (by kernel_rfl) (by simp) ?_
      refine AllReadyH.cons rfl (fun K hK => ?_) AllReadyH.nil
      go_simp
      refine (up_is s1 z1 _ (by omega) (by omega) hz1).mono ?_
      rintro e w' ⟨rfl, rfl⟩
      go_wp2_with fail
      refine hK.out _ _ (by simp [go_sem, World.cell?_alloc_past, *]) (fun hHeld => ?_)
      clear hK K
      try simp only [Act.put, sA, sB, sC]
      refine tkH 17 ⟨some 59, _, _, _, _, _⟩ ?_ rfl ?_ (by assumption) ?_
      rotate_left
      · (intro w hSw; (try dsimp only at hSw); go_simp; all_goals with_reducible rfl)
      try simp only [Act.put, sA, sB, sC]
      refine tkH 18 ⟨some 60, _, _, _, _, _⟩ ?_ rfl ?_ (by assumption) ?_
      rotate_left
      · (intro w hSw; (try dsimp only at hSw); go_simp; all_goals with_reducible rfl)
      try simp only [Act.put, sA, sB, sC]
      refine wpAnyH_ready (rs := [19]) (by kernel_rfl) (by simp) ?_
      refine AllReadyH.cons rfl (fun K hK => ?_) AllReadyH.nil
      go_simp
      go_wp2_with fail
      refine hK.out _ _ (by simp [go_sem, World.cell?_alloc_past, *]) (fun hHeld => ?_)
      clear hK K
      try simp only [Act.put, sA, sB, sC]
      refine wpAnyH_done (by kernel_rfl) ?_ _
      go_wp2
      refine bodyPost_ret (v := .agg #[.int .i64 (m + z0), .int .i64 (m + z1)]) (by simp [results, Tryz.results72, go_sem, *]) rfl ⟨by rw [R0.out, R1.out], ?_⟩
      (repeat (first | (with_reducible refine Below.drew ?_) | (with_reducible refine below_drewN ?_ _) | (with_reducible refine Below.alloc ?_ (by first | omega | (simp; done) | (simp; omega) | (simp at *; omega)) _) | (with_reducible refine Below.setCell ?_ (by first | omega | (simp; done) | (simp; omega) | (simp at *; omega)) _) | (with_reducible exact Below.refl _ _) | (with_reducible assumption) | (with_reducible refine Below.trans ?_ (Below.mono (by assumption) (by first | omega | (simp; done) | (simp; omega) | (simp at *; omega))))))
end Go.Proofs.YtojaompfffpofaaGreat
