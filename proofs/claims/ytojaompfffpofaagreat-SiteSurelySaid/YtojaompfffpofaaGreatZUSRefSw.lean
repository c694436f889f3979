import Derived.Test.YtojaompfffpofaaGreatZUSRefWn
import Derived.Test.YtojaompfffpofaaGreatZUSSlw
import Derived.Outline
namespace Go.Proofs.YtojaompfffpofaaGreat
open Go.ChangeShapes Go.WideShapes Go.ChangeAt Go.RowKit
set_option linter.unusedVariables false
set_option linter.unusedSimpArgs false
attribute [local go_sem ↓] Go.wp_at_zero Go.wp_at_succ
theorem slkV_three (x y l : Int) : slkV x y l = 2 ∨ slkV x y l = 1 ∨ slkV x y l = 0 := by
  unfold slkV; split
  · exact Or.inl rfl
  · split
    · exact Or.inr (Or.inr rfl)
    · exact Or.inr (Or.inl rfl)
structure AskS (m : Int) (A : Option Addr) (n cap : Nat) (l a b : Int) (s : Bool) (w X : World) : Prop where
  t0 : X.cell? ⟨w.heap.size, 0, none⟩ = some (.int .i64 m)
  t1 : X.cell? ⟨w.heap.size, 1, none⟩ = some (.slice A n cap)
  c0 : X.cell? ⟨w.heap.size + 1, 0, none⟩ = some (.int .i64 l)
  c1 : X.cell? ⟨w.heap.size + 1, 1, none⟩ = some (.int .i64 a)
  c2 : X.cell? ⟨w.heap.size + 1, 2, none⟩ = some (.int .i64 b)
  c3 : X.cell? ⟨w.heap.size + 1, 3, none⟩ = some (.bool s)
  be : Below w.heap.size w X
  lt : w.heap.size + 1 < X.heap.size
theorem AskS.below {m : Int} {A : Option Addr} {n cap : Nat} {l a b : Int} {s : Bool} {w X X' : World} (h : AskS m A n cap l a b s w X) (hb : Below X.heap.size X X') : AskS m A n cap l a b s w X' := by
  have z := hb.size
  have l' := h.lt
  have l0 : w.heap.size < X.heap.size := by omega
  exact ⟨(hb.cell (p := ⟨w.heap.size, 0, none⟩) l0).trans h.t0, (hb.cell (p := ⟨w.heap.size, 1, none⟩) l0).trans h.t1, (hb.cell (p := ⟨w.heap.size + 1, 0, none⟩) l').trans h.c0, (hb.cell (p := ⟨w.heap.size + 1, 1, none⟩) l').trans h.c1, (hb.cell (p := ⟨w.heap.size + 1, 2, none⟩) l').trans h.c2, (hb.cell (p := ⟨w.heap.size + 1, 3, none⟩) l').trans h.c3, h.be.trans (hb.mono h.be.size), by omega⟩
set_option maxRecDepth 100000 in
set_option maxHeartbeats 4000000 in
theorem refSlackW_is (m : Int) (L : List Wv) (A : Option Addr) (cap n N : Nat) (l a b : Int) (s : Bool) (w : World) (hn : Hid (n = L.length)) (hl : n ≤ 10) (HW : Hid (∀ x ∈ L, WvOk x)) (m0 : -100000 ≤ m) (m1 : m ≤ 100000) (l0 : 0 ≤ l) (l1 : l ≤ 10000000) (a0 : 0 ≤ a) (ab : a ≤ b) (b1 : b ≤ 1000000) (hs3 : b - a < 3000) (HL : Hid (SlRows wvV 3 w A L)) (hN : Hid ((N : Int) = b - a + 1)) :
    Calls Tryz.prog 21 #[.agg #[.int .i64 m, .slice A n cap], .agg #[.int .i64 l, .int .i64 a, .int .i64 b, .bool s]] w (RwP (rwL a (fun k => slkG m L l (lstV s) (a + (k : Int))) N) w) := by
  have HR : Hid (∀ w' : World, Below w.heap.size w w' → SlRows wvV 3 w' A L) := Lib.hid fun w' hB => HL.out.below hB
  obtain ⟨f, hf⟩ : ∃ f : Nat → Bool, f = fun (k : Nat) => slkG m L l (lstV s) (a + (k : Int)) := ⟨_, rfl⟩
  rw [← hf]
  have HF := Lib.hid hf
  clear hf
  obtain ⟨i0, hi, hz0, hz1, hz2⟩ := info_partsS infoBo
  have HI := Lib.hid hi
  have HZ0 := Lib.hid hz0
  have HZ1 := Lib.hid hz1
  have HZ2 := Lib.hid hz2
  clear hi hz0 hz1 hz2 HL
  go_enter Tryz.func21, Tryz.ntmps21
  go_upto_region 1 with (fail)
  refine wp_world (AskS m A n cap l a b s w) ⟨by simp [go_sem, World.cell?_alloc_past], by simp [go_sem, World.cell?_alloc_past], by simp [go_sem, World.cell?_alloc_past], by simp [go_sem, World.cell?_alloc_past], by simp [go_sem, World.cell?_alloc_past], by simp [go_sem, World.cell?_alloc_past], (by (repeat (first | (with_reducible refine Below.drew ?_) | (with_reducible refine below_drewN ?_ _) | (with_reducible refine Below.alloc ?_ (by first | omega | (simp; done) | (simp; omega) | (simp at *; omega)) _) | (with_reducible refine Below.setCell ?_ (by first | omega | (simp; done) | (simp; omega) | (simp at *; omega)) _) | (with_reducible exact Below.refl _ _) | (with_reducible assumption) | (with_reducible refine Below.trans ?_ (Below.mono (by assumption) (by first | omega | (simp; done) | (simp; omega) | (simp at *; omega))))))), by simp⟩ (fun u hu => ?_)
  have HU := Lib.hid hu
  have hu1 := hu.c1
  clear hu
  go_wp2
  go_loopw [5, 6] (fun st i wr => ∃ (k : Nat) (G : Option Addr) (cg : Nat), st = .slice G k cg ∧ i = .int .i64 (a + (k : Int)) ∧ (k : Int) ≤ b - a + 1 ∧ Hid (wr.ownsRow u.heap.size 4 1 (.slice G k cg) k (rowsV boV (setL f k))) ∧ Below u.heap.size u wr) (fun _ i _ => (b + 1 - intOf i).toNat)
  case atStart => exact ⟨0, none, 0, rfl, by simp, by omega, Lib.hid ⟨rfl, .inl ⟨rfl, rfl⟩⟩, (by (repeat (first | (with_reducible refine Below.drew ?_) | (with_reducible refine below_drewN ?_ _) | (with_reducible refine Below.alloc ?_ (by first | omega | (simp; done) | (simp; omega) | (simp at *; omega)) _) | (with_reducible refine Below.setCell ?_ (by first | omega | (simp; done) | (simp; omega) | (simp at *; omega)) _) | (with_reducible exact Below.refl _ _) | (with_reducible assumption) | (with_reducible refine Below.trans ?_ (Below.mono (by assumption) (by first | omega | (simp; done) | (simp; omega) | (simp at *; omega)))))))⟩
  case round =>
    obtain ⟨k, G, cg, rfl, rfl, hk, HO, hB⟩ := hrel
    have hsz := hB.size
    obtain ⟨t0, t1, c0, c1, c2, c3, hBe, hlt⟩ := HU.out.below hB
    by_cases hkb : a + (k : Int) ≤ b
    · have ek : IntKind.i64.wrap (a + (k : Int) + 1) = a + (k : Int) + 1 := IntWalk.i64_in _ (by omega)
      have HRW : Hid (rowsV boV (setL f (k + 1)) = rowsV boV (setL f k) ++ [.bool (f k)]) := Lib.hid (by rw [setL_succ, rowsV_app]; rfl)
      obtain ⟨q, hq⟩ : ∃ q, Hid (slkV (levLo m L (a + (k : Int))) (levHi m L (a + (k : Int))) l = q) := ⟨_, Lib.hid rfl⟩
      go_wp2_with fail
      refine (refSlack_is m L A cap n (levLo m L (a + (k : Int))) (levHi m L (a + (k : Int))) (a + (k : Int)) l q _ hn hl HW m0 m1 (by omega) (by omega) (Lib.hid (HR.out _ hBe)) (Lib.hid rfl) (Lib.hid rfl) l0 l1 hq).mono ?_
      rintro e x1 ⟨rfl, hb1⟩
      have hB1 : Below u.heap.size u x1 := hB.trans (hb1.mono hsz)
      have HO1 := Lib.hid (own_below HO.out hb1 (Nat.le_refl _))
      have hs1 := hB1.size
      obtain ⟨_, _, d0, d1, d2, d3, _, dlt⟩ := HU.out.below hB1
      have n1 : w.heap.size + 1 < x1.heap.size := by omega
      clear hb1 t0 t1 c0 c1 c2 c3 hBe hlt
      have hx := slkV_three (levLo m L (a + (k : Int))) (levHi m L (a + (k : Int))) l
      rw [hq.out] at hx
      rcases hx with hx | hx | hx
      · subst hx
        have hv : Hid (f k = true) := Lib.hid (by rw [HF.out]; show decide (lstV s ≤ slkV _ _ _) = true; rw [hq.out]; cases s <;> rfl)
        clear hq
        go_wp2_with (at_builtin; refine wpList_append_own_at _ rfl _ _ 126 rfl u.heap.size 4 i0 (.bool false) 1 1 Tryz.underlying126 HI.out HZ0.out HZ1.out HZ2.out rfl (by decide) _ _ _ rfl (own_below HO1.out (by exact (by (repeat (first | (with_reducible refine Below.drew ?_) | (with_reducible refine below_drewN ?_ _) | (with_reducible refine Below.alloc ?_ (by first | omega | (simp; done) | (simp; omega) | (simp at *; omega)) _) | (with_reducible refine Below.setCell ?_ (by first | omega | (simp; done) | (simp; omega) | (simp at *; omega)) _) | (with_reducible exact Below.refl _ _) | (with_reducible assumption) | (with_reducible refine Below.trans ?_ (Below.mono (by assumption) (by first | omega | (simp; done) | (simp; omega) | (simp at *; omega)))))))) (Nat.le_refl _)) ⟨x1.heap.size, 0, none⟩ 1 1 [.bool true] rfl rfl ?a0 ?a1 ?a2 ?a3 ?a4 ?_)
        case a0 =>
          intro j v hj
          match j, hj with
          | 0, hj => simp at hj; subst hj; simp [Addr.add, go_sem]
        case a1 => intro v hv; simp at hv; subst hv; rfl
        case a2 => unfold maxLen; omega
        case a3 => omega
        case a4 => simp; omega
        intro v' x5 hown hgrow hnn hblk
        have hB5 : Below u.heap.size u x5 := Below.grown (by exact (by (repeat (first | (with_reducible refine Below.drew ?_) | (with_reducible refine below_drewN ?_ _) | (with_reducible refine Below.alloc ?_ (by first | omega | (simp; done) | (simp; omega) | (simp at *; omega)) _) | (with_reducible refine Below.setCell ?_ (by first | omega | (simp; done) | (simp; omega) | (simp at *; omega)) _) | (with_reducible exact Below.refl _ _) | (with_reducible assumption) | (with_reducible refine Below.trans ?_ (Below.mono (by assumption) (by first | omega | (simp; done) | (simp; omega) | (simp at *; omega)))))))) hgrow (by simp; omega) (fun r hr => (own_block HO1.out r hr).1)
        have hown2 : x5.ownsRow u.heap.size 4 1 v' (setL f (k + 1)).length (rowsV boV (setL f (k + 1))) := by rw [HRW.out, setL_len, hv.out]; exact hown
        obtain ⟨G5, cg5, hv5, _, _, _, _, _⟩ := SlRows_own (f := boV) (n := 1) (fun _ => rfl) hown2
        rw [setL_len] at hv5
        subst hv5
        have HO5 : Hid (x5.ownsRow u.heap.size 4 1 (.slice G5 (k + 1) cg5) (k + 1) (rowsV boV (setL f (k + 1)))) := Lib.hid (by rw [setL_len] at hown2; exact hown2)
        clear hown hown2 hgrow hnn hblk
        go_wp2
        go_roundw
        case rel => exact ⟨k + 1, G5, cg5, rfl, by first | rfl | (simp; omega) | (congr 1; omega), by omega, HO5, hB5⟩
        case measure => (simp [intOf]) <;> omega
      · subst hx
        cases s with
        | false =>
          have hv : Hid (f k = true) := Lib.hid (by rw [HF.out]; show decide (lstV false ≤ slkV _ _ _) = true; rw [hq.out]; rfl)
          clear hq
          go_wp2_with (at_builtin; refine wpList_append_own_at _ rfl _ _ 126 rfl u.heap.size 4 i0 (.bool false) 1 1 Tryz.underlying126 HI.out HZ0.out HZ1.out HZ2.out rfl (by decide) _ _ _ rfl (own_below HO1.out (by exact (by (repeat (first | (with_reducible refine Below.drew ?_) | (with_reducible refine below_drewN ?_ _) | (with_reducible refine Below.alloc ?_ (by first | omega | (simp; done) | (simp; omega) | (simp at *; omega)) _) | (with_reducible refine Below.setCell ?_ (by first | omega | (simp; done) | (simp; omega) | (simp at *; omega)) _) | (with_reducible exact Below.refl _ _) | (with_reducible assumption) | (with_reducible refine Below.trans ?_ (Below.mono (by assumption) (by first | omega | (simp; done) | (simp; omega) | (simp at *; omega)))))))) (Nat.le_refl _)) ⟨x1.heap.size, 0, none⟩ 1 1 [.bool true] rfl rfl ?a0 ?a1 ?a2 ?a3 ?a4 ?_)
          case a0 =>
            intro j v hj
            match j, hj with
            | 0, hj => simp at hj; subst hj; simp [Addr.add, go_sem]
          case a1 => intro v hv; simp at hv; subst hv; rfl
          case a2 => unfold maxLen; omega
          case a3 => omega
          case a4 => simp; omega
          intro v' x5 hown hgrow hnn hblk
          have hB5 : Below u.heap.size u x5 := Below.grown (by exact (by (repeat (first | (with_reducible refine Below.drew ?_) | (with_reducible refine below_drewN ?_ _) | (with_reducible refine Below.alloc ?_ (by first | omega | (simp; done) | (simp; omega) | (simp at *; omega)) _) | (with_reducible refine Below.setCell ?_ (by first | omega | (simp; done) | (simp; omega) | (simp at *; omega)) _) | (with_reducible exact Below.refl _ _) | (with_reducible assumption) | (with_reducible refine Below.trans ?_ (Below.mono (by assumption) (by first | omega | (simp; done) | (simp; omega) | (simp at *; omega)))))))) hgrow (by simp; omega) (fun r hr => (own_block HO1.out r hr).1)
          have hown2 : x5.ownsRow u.heap.size 4 1 v' (setL f (k + 1)).length (rowsV boV (setL f (k + 1))) := by rw [HRW.out, setL_len, hv.out]; exact hown
          obtain ⟨G5, cg5, hv5, _, _, _, _, _⟩ := SlRows_own (f := boV) (n := 1) (fun _ => rfl) hown2
          rw [setL_len] at hv5
          subst hv5
          have HO5 : Hid (x5.ownsRow u.heap.size 4 1 (.slice G5 (k + 1) cg5) (k + 1) (rowsV boV (setL f (k + 1)))) := Lib.hid (by rw [setL_len] at hown2; exact hown2)
          clear hown hown2 hgrow hnn hblk
          go_wp2
          go_roundw
          case rel => exact ⟨k + 1, G5, cg5, rfl, by first | rfl | (simp; omega) | (congr 1; omega), by omega, HO5, hB5⟩
          case measure => (simp [intOf]) <;> omega
        | true =>
          have hv : Hid (f k = false) := Lib.hid (by rw [HF.out]; show decide (lstV true ≤ slkV _ _ _) = false; rw [hq.out]; rfl)
          clear hq
          go_wp2_with (at_builtin; refine wpList_append_own_at _ rfl _ _ 126 rfl u.heap.size 4 i0 (.bool false) 1 1 Tryz.underlying126 HI.out HZ0.out HZ1.out HZ2.out rfl (by decide) _ _ _ rfl (own_below HO1.out (by exact (by (repeat (first | (with_reducible refine Below.drew ?_) | (with_reducible refine below_drewN ?_ _) | (with_reducible refine Below.alloc ?_ (by first | omega | (simp; done) | (simp; omega) | (simp at *; omega)) _) | (with_reducible refine Below.setCell ?_ (by first | omega | (simp; done) | (simp; omega) | (simp at *; omega)) _) | (with_reducible exact Below.refl _ _) | (with_reducible assumption) | (with_reducible refine Below.trans ?_ (Below.mono (by assumption) (by first | omega | (simp; done) | (simp; omega) | (simp at *; omega)))))))) (Nat.le_refl _)) ⟨x1.heap.size, 0, none⟩ 1 1 [.bool false] rfl rfl ?a0 ?a1 ?a2 ?a3 ?a4 ?_)
          case a0 =>
            intro j v hj
            match j, hj with
            | 0, hj => simp at hj; subst hj; simp [Addr.add, go_sem]
          case a1 => intro v hv; simp at hv; subst hv; rfl
          case a2 => unfold maxLen; omega
          case a3 => omega
          case a4 => simp; omega
          intro v' x5 hown hgrow hnn hblk
          have hB5 : Below u.heap.size u x5 := Below.grown (by exact (by (repeat (first | (with_reducible refine Below.drew ?_) | (with_reducible refine below_drewN ?_ _) | (with_reducible refine Below.alloc ?_ (by first | omega | (simp; done) | (simp; omega) | (simp at *; omega)) _) | (with_reducible refine Below.setCell ?_ (by first | omega | (simp; done) | (simp; omega) | (simp at *; omega)) _) | (with_reducible exact Below.refl _ _) | (with_reducible assumption) | (with_reducible refine Below.trans ?_ (Below.mono (by assumption) (by first | omega | (simp; done) | (simp; omega) | (simp at *; omega)))))))) hgrow (by simp; omega) (fun r hr => (own_block HO1.out r hr).1)
          have hown2 : x5.ownsRow u.heap.size 4 1 v' (setL f (k + 1)).length (rowsV boV (setL f (k + 1))) := by rw [HRW.out, setL_len, hv.out]; exact hown
          obtain ⟨G5, cg5, hv5, _, _, _, _, _⟩ := SlRows_own (f := boV) (n := 1) (fun _ => rfl) hown2
          rw [setL_len] at hv5
          subst hv5
          have HO5 : Hid (x5.ownsRow u.heap.size 4 1 (.slice G5 (k + 1) cg5) (k + 1) (rowsV boV (setL f (k + 1)))) := Lib.hid (by rw [setL_len] at hown2; exact hown2)
          clear hown hown2 hgrow hnn hblk
          go_wp2
          go_roundw
          case rel => exact ⟨k + 1, G5, cg5, rfl, by first | rfl | (simp; omega) | (congr 1; omega), by omega, HO5, hB5⟩
          case measure => (simp [intOf]) <;> omega
      · subst hx
        cases s with
        | false =>
          have hv : Hid (f k = false) := Lib.hid (by rw [HF.out]; show decide (lstV false ≤ slkV _ _ _) = false; rw [hq.out]; rfl)
          clear hq
          go_wp2_with (at_builtin; refine wpList_append_own_at _ rfl _ _ 126 rfl u.heap.size 4 i0 (.bool false) 1 1 Tryz.underlying126 HI.out HZ0.out HZ1.out HZ2.out rfl (by decide) _ _ _ rfl (own_below HO1.out (by exact (by (repeat (first | (with_reducible refine Below.drew ?_) | (with_reducible refine below_drewN ?_ _) | (with_reducible refine Below.alloc ?_ (by first | omega | (simp; done) | (simp; omega) | (simp at *; omega)) _) | (with_reducible refine Below.setCell ?_ (by first | omega | (simp; done) | (simp; omega) | (simp at *; omega)) _) | (with_reducible exact Below.refl _ _) | (with_reducible assumption) | (with_reducible refine Below.trans ?_ (Below.mono (by assumption) (by first | omega | (simp; done) | (simp; omega) | (simp at *; omega)))))))) (Nat.le_refl _)) ⟨x1.heap.size, 0, none⟩ 1 1 [.bool false] rfl rfl ?a0 ?a1 ?a2 ?a3 ?a4 ?_)
          case a0 =>
            intro j v hj
            match j, hj with
            | 0, hj => simp at hj; subst hj; simp [Addr.add, go_sem]
          case a1 => intro v hv; simp at hv; subst hv; rfl
          case a2 => unfold maxLen; omega
          case a3 => omega
          case a4 => simp; omega
          intro v' x5 hown hgrow hnn hblk
          have hB5 : Below u.heap.size u x5 := Below.grown (by exact (by (repeat (first | (with_reducible refine Below.drew ?_) | (with_reducible refine below_drewN ?_ _) | (with_reducible refine Below.alloc ?_ (by first | omega | (simp; done) | (simp; omega) | (simp at *; omega)) _) | (with_reducible refine Below.setCell ?_ (by first | omega | (simp; done) | (simp; omega) | (simp at *; omega)) _) | (with_reducible exact Below.refl _ _) | (with_reducible assumption) | (with_reducible refine Below.trans ?_ (Below.mono (by assumption) (by first | omega | (simp; done) | (simp; omega) | (simp at *; omega)))))))) hgrow (by simp; omega) (fun r hr => (own_block HO1.out r hr).1)
          have hown2 : x5.ownsRow u.heap.size 4 1 v' (setL f (k + 1)).length (rowsV boV (setL f (k + 1))) := by rw [HRW.out, setL_len, hv.out]; exact hown
          obtain ⟨G5, cg5, hv5, _, _, _, _, _⟩ := SlRows_own (f := boV) (n := 1) (fun _ => rfl) hown2
          rw [setL_len] at hv5
          subst hv5
          have HO5 : Hid (x5.ownsRow u.heap.size 4 1 (.slice G5 (k + 1) cg5) (k + 1) (rowsV boV (setL f (k + 1)))) := Lib.hid (by rw [setL_len] at hown2; exact hown2)
          clear hown hown2 hgrow hnn hblk
          go_wp2
          go_roundw
          case rel => exact ⟨k + 1, G5, cg5, rfl, by first | rfl | (simp; omega) | (congr 1; omega), by omega, HO5, hB5⟩
          case measure => (simp [intOf]) <;> omega
        | true =>
          have hv : Hid (f k = false) := Lib.hid (by rw [HF.out]; show decide (lstV true ≤ slkV _ _ _) = false; rw [hq.out]; rfl)
          clear hq
          go_wp2_with (at_builtin; refine wpList_append_own_at _ rfl _ _ 126 rfl u.heap.size 4 i0 (.bool false) 1 1 Tryz.underlying126 HI.out HZ0.out HZ1.out HZ2.out rfl (by decide) _ _ _ rfl (own_below HO1.out (by exact (by (repeat (first | (with_reducible refine Below.drew ?_) | (with_reducible refine below_drewN ?_ _) | (with_reducible refine Below.alloc ?_ (by first | omega | (simp; done) | (simp; omega) | (simp at *; omega)) _) | (with_reducible refine Below.setCell ?_ (by first | omega | (simp; done) | (simp; omega) | (simp at *; omega)) _) | (with_reducible exact Below.refl _ _) | (with_reducible assumption) | (with_reducible refine Below.trans ?_ (Below.mono (by assumption) (by first | omega | (simp; done) | (simp; omega) | (simp at *; omega)))))))) (Nat.le_refl _)) ⟨x1.heap.size, 0, none⟩ 1 1 [.bool false] rfl rfl ?a0 ?a1 ?a2 ?a3 ?a4 ?_)
          case a0 =>
            intro j v hj
            match j, hj with
            | 0, hj => simp at hj; subst hj; simp [Addr.add, go_sem]
          case a1 => intro v hv; simp at hv; subst hv; rfl
          case a2 => unfold maxLen; omega
          case a3 => omega
          case a4 => simp; omega
          intro v' x5 hown hgrow hnn hblk
          have hB5 : Below u.heap.size u x5 := Below.grown (by exact (by (repeat (first | (with_reducible refine Below.drew ?_) | (with_reducible refine below_drewN ?_ _) | (with_reducible refine Below.alloc ?_ (by first | omega | (simp; done) | (simp; omega) | (simp at *; omega)) _) | (with_reducible refine Below.setCell ?_ (by first | omega | (simp; done) | (simp; omega) | (simp at *; omega)) _) | (with_reducible exact Below.refl _ _) | (with_reducible assumption) | (with_reducible refine Below.trans ?_ (Below.mono (by assumption) (by first | omega | (simp; done) | (simp; omega) | (simp at *; omega)))))))) hgrow (by simp; omega) (fun r hr => (own_block HO1.out r hr).1)
          have hown2 : x5.ownsRow u.heap.size 4 1 v' (setL f (k + 1)).length (rowsV boV (setL f (k + 1))) := by rw [HRW.out, setL_len, hv.out]; exact hown
          obtain ⟨G5, cg5, hv5, _, _, _, _, _⟩ := SlRows_own (f := boV) (n := 1) (fun _ => rfl) hown2
          rw [setL_len] at hv5
          subst hv5
          have HO5 : Hid (x5.ownsRow u.heap.size 4 1 (.slice G5 (k + 1) cg5) (k + 1) (rowsV boV (setL f (k + 1)))) := Lib.hid (by rw [setL_len] at hown2; exact hown2)
          clear hown hown2 hgrow hnn hblk
          go_wp2
          go_roundw
          case rel => exact ⟨k + 1, G5, cg5, rfl, by first | rfl | (simp; omega) | (congr 1; omega), by omega, HO5, hB5⟩
          case measure => (simp [intOf]) <;> omega
    · have hkn : k = N := by have := hN.out; omega
      have hO := HO.out
      rw [hkn] at hO
      have hown2 : wr.ownsRow u.heap.size 4 1 (.slice G N cg) (setL f N).length (rowsV boV (setL f N)) := by rw [setL_len]; exact hO
      obtain ⟨G5, cg5, hv5, hS5, _, hn5, _, _⟩ := SlRows_own (f := boV) (n := 1) (fun _ => rfl) hown2
      injection hv5 with e1 e2 e3
      subst e1 e3
      have HS5 := Lib.hid hS5
      have HBE := Lib.hid hBe
      have hN4 : N ≤ 100000 := by have := hN.out; omega
      clear hO hown2 hS5 hn5 e2
      subst hkn
      go_wp2_with fail
      refine (refWinOf_is a f G cg k _ a0 (by omega) hN4 HS5).mono ?_
      rintro e x7 ⟨G7, cg7, rfl, hS7, hN7, hb7⟩
      have HS7 := Lib.hid hS7
      have HN7 := Lib.hid hN7
      have hB7 : Below w.heap.size w x7 := HBE.out.trans (hb7.mono HBE.out.size)
      clear hS7 hN7 hb7
      go_wp2
      go_ret
      exact ⟨G7, cg7, rfl, HS7.out, HN7.out, hB7⟩
theorem brief_is (a b : Int) (E : Int) (p : Bool) (w : World) (hE : Hid (spnE a b = E)) (hp : Hid ((E != 0 || decide (b - a < 200)) = p)) :
    Calls Tryz.prog 13 #[.agg #[.int .i64 a, .int .i64 b]] w fun e w' => e = .returned (.bool p) ∧ Below w.heap.size w w' := by
  rcases ez2 E with ⟨hz0, hzb⟩ | ⟨hz0, hzb⟩
  · have h0 := hE.out
    rw [hz0.out] at h0
    obtain ⟨a0, ab, b1, hs3⟩ := spnE_ok h0
    have ew : IntKind.i64.wrap (b - a) = b - a := IntWalk.i64_in _ (by omega)
    have hp2 := hp.out
    rw [hzb] at hp2
    simp only [Bool.false_or] at hp2
    by_cases h : b - a < 200
    · have hp3 : Hid (true = p) := Lib.hid (by rw [← hp2]; simpa using h)
      clear hp hp2 h0 hz0
      go_enter Tryz.func13, Tryz.ntmps13
      go_wp2_with fail
      refine (refSpan_is a b E _ hE).mono ?_
      rintro e x1 ⟨rfl, hb1⟩
      have z1 := hb1.size
      simp at z1
      have c0 : x1.cell? ⟨w.heap.size, 0, none⟩ = some (.int .i64 a) := by rw [(bcell hb1).1 _ _ (by simp)]; simp [go_sem]
      have c1 : x1.cell? ⟨w.heap.size, 1, none⟩ = some (.int .i64 b) := by rw [(bcell hb1).1 _ _ (by simp)]; simp [go_sem]
      have hB1 : Below w.heap.size w x1 := (by (repeat (first | (with_reducible refine Below.drew ?_) | (with_reducible refine below_drewN ?_ _) | (with_reducible refine Below.alloc ?_ (by first | omega | (simp; done) | (simp; omega) | (simp at *; omega)) _) | (with_reducible refine Below.setCell ?_ (by first | omega | (simp; done) | (simp; omega) | (simp at *; omega)) _) | (with_reducible exact Below.refl _ _) | (with_reducible assumption) | (with_reducible refine Below.trans ?_ (Below.mono (by assumption) (by first | omega | (simp; done) | (simp; omega) | (simp at *; omega)))))))
      clear hb1
      go_wp2
      go_ret
      exact ⟨by rw [hp3.out]; rfl, hB1⟩
    · have hp3 : Hid (false = p) := Lib.hid (by rw [← hp2]; simpa using h)
      have hd : decide (b - a < 200) = false := by simpa using h
      clear hp hp2 h0 hz0
      go_enter Tryz.func13, Tryz.ntmps13
      go_wp2_with fail
      refine (refSpan_is a b E _ hE).mono ?_
      rintro e x1 ⟨rfl, hb1⟩
      have z1 := hb1.size
      simp at z1
      have c0 : x1.cell? ⟨w.heap.size, 0, none⟩ = some (.int .i64 a) := by rw [(bcell hb1).1 _ _ (by simp)]; simp [go_sem]
      have c1 : x1.cell? ⟨w.heap.size, 1, none⟩ = some (.int .i64 b) := by rw [(bcell hb1).1 _ _ (by simp)]; simp [go_sem]
      have hB1 : Below w.heap.size w x1 := (by (repeat (first | (with_reducible refine Below.drew ?_) | (with_reducible refine below_drewN ?_ _) | (with_reducible refine Below.alloc ?_ (by first | omega | (simp; done) | (simp; omega) | (simp at *; omega)) _) | (with_reducible refine Below.setCell ?_ (by first | omega | (simp; done) | (simp; omega) | (simp at *; omega)) _) | (with_reducible exact Below.refl _ _) | (with_reducible assumption) | (with_reducible refine Below.trans ?_ (Below.mono (by assumption) (by first | omega | (simp; done) | (simp; omega) | (simp at *; omega)))))))
      clear hb1
      go_wp2
      go_ret
      exact ⟨by rw [hp3.out]; rfl, hB1⟩
  · have hp3 : Hid (true = p) := Lib.hid (by rw [← hp.out, hzb]; rfl)
    clear hp hz0
    go_enter Tryz.func13, Tryz.ntmps13
    go_wp2_with fail
    refine (refSpan_is a b E _ hE).mono ?_
    rintro e x1 ⟨rfl, hb1⟩
    have hB1 : Below w.heap.size w x1 := (by (repeat (first | (with_reducible refine Below.drew ?_) | (with_reducible refine below_drewN ?_ _) | (with_reducible refine Below.alloc ?_ (by first | omega | (simp; done) | (simp; omega) | (simp at *; omega)) _) | (with_reducible refine Below.setCell ?_ (by first | omega | (simp; done) | (simp; omega) | (simp at *; omega)) _) | (with_reducible exact Below.refl _ _) | (with_reducible assumption) | (with_reducible refine Below.trans ?_ (Below.mono (by assumption) (by first | omega | (simp; done) | (simp; omega) | (simp at *; omega)))))))
    clear hb1
    go_wp2
    go_ret
    exact ⟨by rw [hp3.out]; rfl, hB1⟩
theorem bWth_is (n a b : Int) (p : Bool) (w : World) (hp : Hid (inB n a b = p)) :
    Calls Tryz.prog 23 #[.int .i64 n, .int .i64 a, .int .i64 b] w fun e w' => e = .returned (.bool p) ∧ w = w' := by
  rw [← hp.out]; exact baseWithin_any n a b w
set_option maxRecDepth 100000 in
set_option maxHeartbeats 2000000 in
theorem askErr_is (m : Int) (L : List Wv) (A : Option Addr) (cap n : Nat) (l a b E : Int) (s : Bool) (w : World) (hn : Hid (n = L.length)) (hl : n ≤ 1000000) (HL : Hid (SlRows wvV 3 w A L)) (hE : Hid (askE m L l a b = E)) :
    Calls Tryz.prog 20 #[.agg #[.int .i64 m, .slice A n cap], .agg #[.int .i64 l, .int .i64 a, .int .i64 b, .bool s]] w fun e w' => e = .returned (.int .i64 E) ∧ Below w.heap.size w w' := by
  have HR : Hid (∀ w' : World, Below w.heap.size w w' → SlRows wvV 3 w' A L) := Lib.hid fun w' hB => HL.out.below hB
  have he := hE.out
  unfold askE at he
  obtain ⟨F, hF⟩ : ∃ z, Hid (tidE m L = z) := ⟨_, Lib.hid rfl⟩
  obtain ⟨H, hH⟩ : ∃ z, Hid (spnE a b = z) := ⟨_, Lib.hid rfl⟩
  rw [hF.out, hH.out] at he
  clear hE HL
  have hst : ∀ u, AskS m A n cap l a b s w u → True := fun _ _ => trivial
  rcases ez2 F with ⟨hz0, hzb⟩ | ⟨hz0, hzb⟩
  · rcases inB_cases l 0 10000000 with h1 | h1
    · have he2 : Hid (H = E) := Lib.hid (by rw [← he, hz0.out, rngE_t h1]; unfold firE firE firE firE; simp)
      have H1 := Lib.hid h1
      clear he hz0 h1 hst
      go_enter Tryz.func20, Tryz.ntmps20
      go_upto_region 1 with (fail)
      refine wp_world (AskS m A n cap l a b s w) ⟨by simp [go_sem, World.cell?_alloc_past], by simp [go_sem, World.cell?_alloc_past], by simp [go_sem, World.cell?_alloc_past], by simp [go_sem, World.cell?_alloc_past], by simp [go_sem, World.cell?_alloc_past], by simp [go_sem, World.cell?_alloc_past], (by (repeat (first | (with_reducible refine Below.drew ?_) | (with_reducible refine below_drewN ?_ _) | (with_reducible refine Below.alloc ?_ (by first | omega | (simp; done) | (simp; omega) | (simp at *; omega)) _) | (with_reducible refine Below.setCell ?_ (by first | omega | (simp; done) | (simp; omega) | (simp at *; omega)) _) | (with_reducible exact Below.refl _ _) | (with_reducible assumption) | (with_reducible refine Below.trans ?_ (Below.mono (by assumption) (by first | omega | (simp; done) | (simp; omega) | (simp at *; omega))))))), by simp⟩ (fun u hu => ?_)
      have HU := Lib.hid hu
      obtain ⟨t0, t1, c0, c1, c2, c3, hBe, hlt⟩ := hu
      go_wp2_with fail
      refine (refTide_is m L A cap n F _ hn hl (Lib.hid (HR.out _ hBe)) hF).mono ?_
      rintro e x1 ⟨rfl, hb1⟩
      clear t0 t1 c0 c1 c2 c3 hBe hlt
      obtain ⟨t0, t1, c0, c1, c2, c3, hBe, hlt⟩ := HU.out.below hb1
      clear hb1
      go_wp2_with ((go_at_call 23; ((with_reducible refine (bWth_is _ _ _ _ _ H1).mono ?_)); rintro e w' ⟨rfl, rfl⟩))
      go_wp2_with fail
      refine (refSpan_is a b H _ hH).mono ?_
      rintro e x2 ⟨rfl, hb2⟩
      have hB2 : Below w.heap.size w x2 := hBe.trans (hb2.mono hBe.size)
      clear hb2
      go_wp2
      go_ret
      exact ⟨by rw [he2.out]; rfl, hB2⟩
    · have he2 : Hid (2 = E) := Lib.hid (by rw [← he, hz0.out, rngE_f h1]; rfl)
      have H1 := Lib.hid h1
      clear he hz0 h1 hst
      go_enter Tryz.func20, Tryz.ntmps20
      go_upto_region 1 with (fail)
      refine wp_world (AskS m A n cap l a b s w) ⟨by simp [go_sem, World.cell?_alloc_past], by simp [go_sem, World.cell?_alloc_past], by simp [go_sem, World.cell?_alloc_past], by simp [go_sem, World.cell?_alloc_past], by simp [go_sem, World.cell?_alloc_past], by simp [go_sem, World.cell?_alloc_past], (by (repeat (first | (with_reducible refine Below.drew ?_) | (with_reducible refine below_drewN ?_ _) | (with_reducible refine Below.alloc ?_ (by first | omega | (simp; done) | (simp; omega) | (simp at *; omega)) _) | (with_reducible refine Below.setCell ?_ (by first | omega | (simp; done) | (simp; omega) | (simp at *; omega)) _) | (with_reducible exact Below.refl _ _) | (with_reducible assumption) | (with_reducible refine Below.trans ?_ (Below.mono (by assumption) (by first | omega | (simp; done) | (simp; omega) | (simp at *; omega))))))), by simp⟩ (fun u hu => ?_)
      have HU := Lib.hid hu
      obtain ⟨t0, t1, c0, c1, c2, c3, hBe, hlt⟩ := hu
      go_wp2_with fail
      refine (refTide_is m L A cap n F _ hn hl (Lib.hid (HR.out _ hBe)) hF).mono ?_
      rintro e x1 ⟨rfl, hb1⟩
      clear t0 t1 c0 c1 c2 c3 hBe hlt
      obtain ⟨t0, t1, c0, c1, c2, c3, hBe, hlt⟩ := HU.out.below hb1
      clear hb1
      go_wp2_with ((go_at_call 23; ((with_reducible refine (bWth_is _ _ _ _ _ H1).mono ?_)); rintro e w' ⟨rfl, rfl⟩))
      go_ret
      exact ⟨by rw [he2.out]; rfl, hBe⟩
  · have he2 : Hid (F = E) := Lib.hid (by rw [← he]; unfold firE; rw [if_neg hz0.out])
    clear he hz0 hst
    go_enter Tryz.func20, Tryz.ntmps20
    go_upto_region 1 with (fail)
    refine wp_world (AskS m A n cap l a b s w) ⟨by simp [go_sem, World.cell?_alloc_past], by simp [go_sem, World.cell?_alloc_past], by simp [go_sem, World.cell?_alloc_past], by simp [go_sem, World.cell?_alloc_past], by simp [go_sem, World.cell?_alloc_past], by simp [go_sem, World.cell?_alloc_past], (by (repeat (first | (with_reducible refine Below.drew ?_) | (with_reducible refine below_drewN ?_ _) | (with_reducible refine Below.alloc ?_ (by first | omega | (simp; done) | (simp; omega) | (simp at *; omega)) _) | (with_reducible refine Below.setCell ?_ (by first | omega | (simp; done) | (simp; omega) | (simp at *; omega)) _) | (with_reducible exact Below.refl _ _) | (with_reducible assumption) | (with_reducible refine Below.trans ?_ (Below.mono (by assumption) (by first | omega | (simp; done) | (simp; omega) | (simp at *; omega))))))), by simp⟩ (fun u hu => ?_)
    have HU := Lib.hid hu
    obtain ⟨t0, t1, c0, c1, c2, c3, hBe, hlt⟩ := hu
    go_wp2_with fail
    refine (refTide_is m L A cap n F _ hn hl (Lib.hid (HR.out _ hBe)) hF).mono ?_
    rintro e x1 ⟨rfl, hb1⟩
    have hB1 : Below w.heap.size w x1 := hBe.trans (hb1.mono hBe.size)
    clear hb1
    go_wp2
    go_ret
    exact ⟨by rw [he2.out]; rfl, hB1⟩
end Go.Proofs.YtojaompfffpofaaGreat
