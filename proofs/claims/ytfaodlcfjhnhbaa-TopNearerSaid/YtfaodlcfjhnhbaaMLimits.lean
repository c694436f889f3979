import Derived.Test.YtfaodlcfjhnhbaaMBase
import Derived.Outline
import Derived.Test.YtfaodlcfjhnhbaaMMarks
import Derived.Test.YtfaodlcfjhnhbaaMRoots
/- What tissue.checkLoad, check.Each over compartments and loads, CheckTable and CheckLoads return. -/
namespace Go.Proofs.Ytfaodlcfjhnhbaa
open Go.ChangeShapes Go.WideShapes Go.ChangeAt Go.RowKit
set_option linter.unusedVariables false
set_option linter.unusedSimpArgs false

set_option maxRecDepth 100000 in
set_option maxHeartbeats 1000000 in
theorem checkLoad_any (a b c d : Int) (w : World) :
    Calls Try.prog 43 #[.agg #[.int .i64 a, .int .i64 b, .int .i64 c, .int .i64 d]] w fun e w' => e = .returned (.int .i64 (lodE a b c d)) ∧ Below w.heap.size w w' := by
  have i0 : ∀ w : World, (Instr.index 110 (.agg #[.int .i64 a, .int .i64 b, .int .i64 c, .int .i64 d]) (.int .i64 0)).run Try.prog w = .ok (.int .i64 a) w := fun _ => by kernel_rfl
  have i1 : ∀ w : World, (Instr.index 110 (.agg #[.int .i64 a, .int .i64 b, .int .i64 c, .int .i64 d]) (.int .i64 1)).run Try.prog w = .ok (.int .i64 b) w := fun _ => by kernel_rfl
  have i2 : ∀ w : World, (Instr.index 110 (.agg #[.int .i64 a, .int .i64 b, .int .i64 c, .int .i64 d]) (.int .i64 2)).run Try.prog w = .ok (.int .i64 c) w := fun _ => by kernel_rfl
  have i3 : ∀ w : World, (Instr.index 110 (.agg #[.int .i64 a, .int .i64 b, .int .i64 c, .int .i64 d]) (.int .i64 3)).run Try.prog w = .ok (.int .i64 d) w := fun _ => by kernel_rfl
  obtain ⟨E, hE⟩ : ∃ E, Hid (lodE a b c d = E) := ⟨_, rfl⟩
  rw [hE.out]
  rcases inB_cases a 0 100000000 with h1 | h1
  · rcases inB_cases b 0 100000000 with h2 | h2
    · rcases inB_cases c 0 100000000 with h3 | h3
      · rcases inB_cases d 0 100000000 with h4 | h4
        · by_cases h5 : b < a
          · have hr : Hid (E = 9) := by show _ = _; rw [← hE.out]; exact lodE_5 h1 h2 h3 h4 h5
            clear hE
            go_enter Try.func43, Try.ntmps43
            go_wp2
            refine wp_loop_rounds 5 ?_
            rw [rounds_succ]
            go_wp2_with ((go_at_call 52; ((with_reducible refine (cWithin_any _ _ _ _).mono ?_)); rintro e w' ⟨rfl, rfl⟩))
            rw [rounds_succ]
            go_wp2_with ((go_at_call 52; ((with_reducible refine (cWithin_any _ _ _ _).mono ?_)); rintro e w' ⟨rfl, rfl⟩))
            rw [rounds_succ]
            go_wp2_with ((go_at_call 52; ((with_reducible refine (cWithin_any _ _ _ _).mono ?_)); rintro e w' ⟨rfl, rfl⟩))
            rw [rounds_succ]
            go_wp2_with ((go_at_call 52; ((with_reducible refine (cWithin_any _ _ _ _).mono ?_)); rintro e w' ⟨rfl, rfl⟩))
            rw [rounds_succ]
            go_wp2_with ((go_at_call 52; ((with_reducible refine (cWithin_any _ _ _ _).mono ?_)); rintro e w' ⟨rfl, rfl⟩))
            go_ret
            exact ⟨ret_int hr.out.symm, (by (repeat (first | (with_reducible refine Below.drew ?_) | (with_reducible refine below_drewN ?_ _) | (with_reducible refine Below.alloc ?_ (by first | omega | (simp; done) | (simp; omega) | (simp at *; omega)) _) | (with_reducible refine Below.setCell ?_ (by first | omega | (simp; done) | (simp; omega) | (simp at *; omega)) _) | (with_reducible exact Below.refl _ _) | (with_reducible assumption) | (with_reducible refine Below.trans ?_ (Below.mono (by assumption) (by first | omega | (simp; done) | (simp; omega) | (simp at *; omega)))))))⟩
          · by_cases h6 : d < c
            · have hr : Hid (E = 9) := by show _ = _; rw [← hE.out]; exact lodE_6 h1 h2 h3 h4 h5 h6
              clear hE
              go_enter Try.func43, Try.ntmps43
              go_wp2
              refine wp_loop_rounds 5 ?_
              rw [rounds_succ]
              go_wp2_with ((go_at_call 52; ((with_reducible refine (cWithin_any _ _ _ _).mono ?_)); rintro e w' ⟨rfl, rfl⟩))
              rw [rounds_succ]
              go_wp2_with ((go_at_call 52; ((with_reducible refine (cWithin_any _ _ _ _).mono ?_)); rintro e w' ⟨rfl, rfl⟩))
              rw [rounds_succ]
              go_wp2_with ((go_at_call 52; ((with_reducible refine (cWithin_any _ _ _ _).mono ?_)); rintro e w' ⟨rfl, rfl⟩))
              rw [rounds_succ]
              go_wp2_with ((go_at_call 52; ((with_reducible refine (cWithin_any _ _ _ _).mono ?_)); rintro e w' ⟨rfl, rfl⟩))
              rw [rounds_succ]
              go_wp2_with ((go_at_call 52; ((with_reducible refine (cWithin_any _ _ _ _).mono ?_)); rintro e w' ⟨rfl, rfl⟩))
              go_ret
              exact ⟨ret_int hr.out.symm, (by (repeat (first | (with_reducible refine Below.drew ?_) | (with_reducible refine below_drewN ?_ _) | (with_reducible refine Below.alloc ?_ (by first | omega | (simp; done) | (simp; omega) | (simp at *; omega)) _) | (with_reducible refine Below.setCell ?_ (by first | omega | (simp; done) | (simp; omega) | (simp at *; omega)) _) | (with_reducible exact Below.refl _ _) | (with_reducible assumption) | (with_reducible refine Below.trans ?_ (Below.mono (by assumption) (by first | omega | (simp; done) | (simp; omega) | (simp at *; omega)))))))⟩
            · have hr : Hid (E = 0) := by show _ = _; rw [← hE.out]; exact lodE_7 h1 h2 h3 h4 h5 h6
              clear hE
              go_enter Try.func43, Try.ntmps43
              go_wp2
              refine wp_loop_rounds 5 ?_
              rw [rounds_succ]
              go_wp2_with ((go_at_call 52; ((with_reducible refine (cWithin_any _ _ _ _).mono ?_)); rintro e w' ⟨rfl, rfl⟩))
              rw [rounds_succ]
              go_wp2_with ((go_at_call 52; ((with_reducible refine (cWithin_any _ _ _ _).mono ?_)); rintro e w' ⟨rfl, rfl⟩))
              rw [rounds_succ]
              go_wp2_with ((go_at_call 52; ((with_reducible refine (cWithin_any _ _ _ _).mono ?_)); rintro e w' ⟨rfl, rfl⟩))
              rw [rounds_succ]
              go_wp2_with ((go_at_call 52; ((with_reducible refine (cWithin_any _ _ _ _).mono ?_)); rintro e w' ⟨rfl, rfl⟩))
              rw [rounds_succ]
              go_wp2_with ((go_at_call 52; ((with_reducible refine (cWithin_any _ _ _ _).mono ?_)); rintro e w' ⟨rfl, rfl⟩))
              go_ret
              exact ⟨ret_int hr.out.symm, (by (repeat (first | (with_reducible refine Below.drew ?_) | (with_reducible refine below_drewN ?_ _) | (with_reducible refine Below.alloc ?_ (by first | omega | (simp; done) | (simp; omega) | (simp at *; omega)) _) | (with_reducible refine Below.setCell ?_ (by first | omega | (simp; done) | (simp; omega) | (simp at *; omega)) _) | (with_reducible exact Below.refl _ _) | (with_reducible assumption) | (with_reducible refine Below.trans ?_ (Below.mono (by assumption) (by first | omega | (simp; done) | (simp; omega) | (simp at *; omega)))))))⟩
        · have hr : Hid (E = 2) := by show _ = _; rw [← hE.out]; exact lodE_4 h1 h2 h3 h4
          clear hE
          go_enter Try.func43, Try.ntmps43
          go_wp2
          refine wp_loop_rounds 5 ?_
          rw [rounds_succ]
          go_wp2_with ((go_at_call 52; ((with_reducible refine (cWithin_any _ _ _ _).mono ?_)); rintro e w' ⟨rfl, rfl⟩))
          rw [rounds_succ]
          go_wp2_with ((go_at_call 52; ((with_reducible refine (cWithin_any _ _ _ _).mono ?_)); rintro e w' ⟨rfl, rfl⟩))
          rw [rounds_succ]
          go_wp2_with ((go_at_call 52; ((with_reducible refine (cWithin_any _ _ _ _).mono ?_)); rintro e w' ⟨rfl, rfl⟩))
          rw [rounds_succ]
          go_wp2_with ((go_at_call 52; ((with_reducible refine (cWithin_any _ _ _ _).mono ?_)); rintro e w' ⟨rfl, rfl⟩))
          go_ret
          exact ⟨ret_int hr.out.symm, (by (repeat (first | (with_reducible refine Below.drew ?_) | (with_reducible refine below_drewN ?_ _) | (with_reducible refine Below.alloc ?_ (by first | omega | (simp; done) | (simp; omega) | (simp at *; omega)) _) | (with_reducible refine Below.setCell ?_ (by first | omega | (simp; done) | (simp; omega) | (simp at *; omega)) _) | (with_reducible exact Below.refl _ _) | (with_reducible assumption) | (with_reducible refine Below.trans ?_ (Below.mono (by assumption) (by first | omega | (simp; done) | (simp; omega) | (simp at *; omega)))))))⟩
      · have hr : Hid (E = 2) := by show _ = _; rw [← hE.out]; exact lodE_3 h1 h2 h3
        clear hE
        go_enter Try.func43, Try.ntmps43
        go_wp2
        refine wp_loop_rounds 5 ?_
        rw [rounds_succ]
        go_wp2_with ((go_at_call 52; ((with_reducible refine (cWithin_any _ _ _ _).mono ?_)); rintro e w' ⟨rfl, rfl⟩))
        rw [rounds_succ]
        go_wp2_with ((go_at_call 52; ((with_reducible refine (cWithin_any _ _ _ _).mono ?_)); rintro e w' ⟨rfl, rfl⟩))
        rw [rounds_succ]
        go_wp2_with ((go_at_call 52; ((with_reducible refine (cWithin_any _ _ _ _).mono ?_)); rintro e w' ⟨rfl, rfl⟩))
        go_ret
        exact ⟨ret_int hr.out.symm, (by (repeat (first | (with_reducible refine Below.drew ?_) | (with_reducible refine below_drewN ?_ _) | (with_reducible refine Below.alloc ?_ (by first | omega | (simp; done) | (simp; omega) | (simp at *; omega)) _) | (with_reducible refine Below.setCell ?_ (by first | omega | (simp; done) | (simp; omega) | (simp at *; omega)) _) | (with_reducible exact Below.refl _ _) | (with_reducible assumption) | (with_reducible refine Below.trans ?_ (Below.mono (by assumption) (by first | omega | (simp; done) | (simp; omega) | (simp at *; omega)))))))⟩
    · have hr : Hid (E = 2) := by show _ = _; rw [← hE.out]; exact lodE_2 h1 h2
      clear hE
      go_enter Try.func43, Try.ntmps43
      go_wp2
      refine wp_loop_rounds 5 ?_
      rw [rounds_succ]
      go_wp2_with ((go_at_call 52; ((with_reducible refine (cWithin_any _ _ _ _).mono ?_)); rintro e w' ⟨rfl, rfl⟩))
      rw [rounds_succ]
      go_wp2_with ((go_at_call 52; ((with_reducible refine (cWithin_any _ _ _ _).mono ?_)); rintro e w' ⟨rfl, rfl⟩))
      go_ret
      exact ⟨ret_int hr.out.symm, (by (repeat (first | (with_reducible refine Below.drew ?_) | (with_reducible refine below_drewN ?_ _) | (with_reducible refine Below.alloc ?_ (by first | omega | (simp; done) | (simp; omega) | (simp at *; omega)) _) | (with_reducible refine Below.setCell ?_ (by first | omega | (simp; done) | (simp; omega) | (simp at *; omega)) _) | (with_reducible exact Below.refl _ _) | (with_reducible assumption) | (with_reducible refine Below.trans ?_ (Below.mono (by assumption) (by first | omega | (simp; done) | (simp; omega) | (simp at *; omega)))))))⟩
  · have hr : Hid (E = 2) := by show _ = _; rw [← hE.out]; exact lodE_1 h1
    clear hE
    go_enter Try.func43, Try.ntmps43
    go_wp2
    refine wp_loop_rounds 5 ?_
    rw [rounds_succ]
    go_wp2_with ((go_at_call 52; ((with_reducible refine (cWithin_any _ _ _ _).mono ?_)); rintro e w' ⟨rfl, rfl⟩))
    go_ret
    exact ⟨ret_int hr.out.symm, (by (repeat (first | (with_reducible refine Below.drew ?_) | (with_reducible refine below_drewN ?_ _) | (with_reducible refine Below.alloc ?_ (by first | omega | (simp; done) | (simp; omega) | (simp at *; omega)) _) | (with_reducible refine Below.setCell ?_ (by first | omega | (simp; done) | (simp; omega) | (simp at *; omega)) _) | (with_reducible exact Below.refl _ _) | (with_reducible assumption) | (with_reducible refine Below.trans ?_ (Below.mono (by assumption) (by first | omega | (simp; done) | (simp; omega) | (simp at *; omega)))))))⟩
theorem eachLoad1_is (i p0 p1 p2 p3 : Int) (c : Nat) (w : World) (hc : w.cell? ⟨c, 0, none⟩ = some (.func (.func 43) #[] #[])) (hcl : c < w.heap.size) :
    Calls Try.prog 60 #[.int .i64 i, .agg #[.int .i64 p0, .int .i64 p1, .int .i64 p2, .int .i64 p3], .pointer (some ⟨c, 0, none⟩)] w fun e w' => e = .returned (.int .i64 (lodE p0 p1 p2 p3)) ∧ Below w.heap.size w w' := by
  have o1 : c ≠ w.heap.size := by omega
  have o2 : w.heap.size ≠ c := by omega
  go_enter Try.func60, Try.ntmps60
  go_wp2_with fail
  refine (checkLoad_any p0 p1 p2 p3 _).mono ?_
  rintro e w1 ⟨rfl, hb1⟩
  have hB1 : Below w.heap.size w w1 := (by (repeat (first | (with_reducible refine Below.drew ?_) | (with_reducible refine below_drewN ?_ _) | (with_reducible refine Below.alloc ?_ (by first | omega | (simp; done) | (simp; omega) | (simp at *; omega)) _) | (with_reducible refine Below.setCell ?_ (by first | omega | (simp; done) | (simp; omega) | (simp at *; omega)) _) | (with_reducible exact Below.refl _ _) | (with_reducible assumption) | (with_reducible refine Below.trans ?_ (Below.mono (by assumption) (by first | omega | (simp; done) | (simp; omega) | (simp at *; omega)))))))
  clear hb1
  go_wp2
  go_ret
  exact ⟨rfl, (by (repeat (first | (with_reducible refine Below.drew ?_) | (with_reducible refine below_drewN ?_ _) | (with_reducible refine Below.alloc ?_ (by first | omega | (simp; done) | (simp; omega) | (simp at *; omega)) _) | (with_reducible refine Below.setCell ?_ (by first | omega | (simp; done) | (simp; omega) | (simp at *; omega)) _) | (with_reducible exact Below.refl _ _) | (with_reducible assumption) | (with_reducible refine Below.trans ?_ (Below.mono (by assumption) (by first | omega | (simp; done) | (simp; omega) | (simp at *; omega)))))))⟩
def eachLoadP (E : Int) (w : World) (e : Ending) (w' : World) : Prop := ∃ n : Int, e = .returned (.tuple #[.int .i64 n, .int .i64 E]) ∧ Below w.heap.size w w'
set_option maxRecDepth 100000 in
set_option maxHeartbeats 1000000 in
theorem eachLoadN_any (L : List Ld) (A : Option Addr) (cap c : Nat) (w : World) (hl : L.length ≤ 1000000) (hL : SlLd w A L) (hc : w.cell? ⟨c, 0, none⟩ = some (.func (.func 43) #[] #[])) (hcl : c < w.heap.size) :
    Calls Try.prog 59 #[.slice A L.length cap, .func (.func 60) #[] #[.pointer (some ⟨c, 0, none⟩)]] w (eachLoadP (fstE loadE L) w) := by
  have HC := Lib.hid hc
  clear hc
  obtain ⟨E, hE⟩ : ∃ E, Hid (fstE loadE L = E) := ⟨_, Lib.hid rfl⟩
  rw [hE.out]
  rcases hL with rfl | ⟨b, off, rfl, hlt, hL⟩
  · have hr : Hid (E = 0) := Lib.hid (by rw [← hE.out]; rfl)
    clear hE
    go_enter Try.func59, Try.ntmps59
    go_wp2
    refine wp_loop_rounds 1 ?_
    rw [rounds_succ]
    go_wp2
    go_ret2
    exact ⟨0, by rw [hr.out]; rfl, (by (repeat (first | (with_reducible refine Below.drew ?_) | (with_reducible refine below_drewN ?_ _) | (with_reducible refine Below.alloc ?_ (by first | omega | (simp; done) | (simp; omega) | (simp at *; omega)) _) | (with_reducible refine Below.setCell ?_ (by first | omega | (simp; done) | (simp; omega) | (simp at *; omega)) _) | (with_reducible exact Below.refl _ _) | (with_reducible assumption) | (with_reducible refine Below.trans ?_ (Below.mono (by assumption) (by first | omega | (simp; done) | (simp; omega) | (simp at *; omega)))))))⟩
  have HP : Hid (LdAt w b off L) := hL
  clear hL
  go_enter Try.func59, Try.ntmps59
  go_wp2
  go_loopw [11] (fun i wr => ∃ k : Nat, k ≤ L.length ∧ i = .int .i64 k ∧ Hid (∀ j, (hj : j < k) → (hj' : j < L.length) → loadE L[j] = 0) ∧ Below w.heap.size w wr) (fun i _ => L.length - (intOf i).toNat)
  case atStart => exact ⟨0, by omega, rfl, fun j hj => by omega, (by (repeat (first | (with_reducible refine Below.drew ?_) | (with_reducible refine below_drewN ?_ _) | (with_reducible refine Below.alloc ?_ (by first | omega | (simp; done) | (simp; omega) | (simp at *; omega)) _) | (with_reducible refine Below.setCell ?_ (by first | omega | (simp; done) | (simp; omega) | (simp at *; omega)) _) | (with_reducible exact Below.refl _ _) | (with_reducible assumption) | (with_reducible refine Below.trans ?_ (Below.mono (by assumption) (by first | omega | (simp; done) | (simp; omega) | (simp at *; omega)))))))⟩
  case round =>
    obtain ⟨k, hk, rfl, hz, hB⟩ := hrel
    by_cases hkl : k < L.length
    · obtain ⟨c0, c1, c2, c3⟩ := HP.out.below hB hlt k hkl
      have hsz := hB.size
      have cw := (hB.cell (p := ⟨c, 0, none⟩) hcl).trans HC.out
      have hcw : c < wr.heap.size := by omega
      have CW : Hid (∀ v : Obj, (wr.alloc v).cell? ⟨c, 0, none⟩ = some (.func (.func 43) #[] #[]) ∧ c < (wr.alloc v).heap.size) := Lib.hid fun v => ⟨(((Below.refl wr.heap.size wr).alloc (Nat.le_refl _) v).cell (p := ⟨c, 0, none⟩) hcw).trans cw, by simp; omega⟩
      obtain ⟨p0, h0⟩ : ∃ x, Hid (L[k].a = x) := ⟨L[k].a, rfl⟩
      obtain ⟨p1, h1⟩ : ∃ x, Hid (L[k].b = x) := ⟨L[k].b, rfl⟩
      obtain ⟨p2, h2⟩ : ∃ x, Hid (L[k].c = x) := ⟨L[k].c, rfl⟩
      obtain ⟨p3, h3⟩ : ∃ x, Hid (L[k].d = x) := ⟨L[k].d, rfl⟩
      rw [h0.out] at c0
      rw [h1.out] at c1
      rw [h2.out] at c2
      rw [h3.out] at c3
      have hpe : Hid (loadE L[k] = lodE p0 p1 p2 p3) := by unfold loadE Hid; rw [h0.out, h1.out, h2.out, h3.out]
      obtain ⟨F, hF⟩ : ∃ F, Hid (lodE p0 p1 p2 p3 = F) := ⟨_, Lib.hid rfl⟩
      have HK := eachLoad1_is (k : Int) p0 p1 p2 p3 c
      rw [hF.out] at HK hpe
      have HK2 := Lib.hid HK
      clear HK cw
      rcases ez2 F with ⟨hz0, hzb⟩ | ⟨hz0, hzb⟩
      · have hz2 : Hid (∀ j, (hj : j < k + 1) → (hj' : j < L.length) → loadE L[j] = 0) := fun j hj hj' => by
          by_cases e : j = k
          · subst e; rw [hpe.out]; exact hz0.out
          · exact hz.out j (by omega) hj'
        clear hz hz0
        go_wp2_with fail
        refine (HK2.out _ (CW.out _).1 (CW.out _).2).mono ?_
        rintro e w1 ⟨rfl, hb1⟩
        have hB1 : Below w.heap.size w w1 := (by (repeat (first | (with_reducible refine Below.drew ?_) | (with_reducible refine below_drewN ?_ _) | (with_reducible refine Below.alloc ?_ (by first | omega | (simp; done) | (simp; omega) | (simp at *; omega)) _) | (with_reducible refine Below.setCell ?_ (by first | omega | (simp; done) | (simp; omega) | (simp at *; omega)) _) | (with_reducible exact Below.refl _ _) | (with_reducible assumption) | (with_reducible refine Below.trans ?_ (Below.mono (by assumption) (by first | omega | (simp; done) | (simp; omega) | (simp at *; omega)))))))
        clear hb1
        go_wp2
        go_roundw
        case rel => exact ⟨k + 1, by omega, by go_num, hz2, hB1⟩
        case measure => simp [intOf]; omega
      · have hr : Hid (E = F) := Lib.hid (by
          have h1 : loadE L[k] ≠ 0 := by rw [hpe.out]; exact hz0.out
          have h2 := fstE_at hkl (fun j hj => hz.out j hj (by omega)) h1
          rw [hpe.out, hE.out] at h2
          exact h2)
        clear hz
        go_wp2_with fail
        refine (HK2.out _ (CW.out _).1 (CW.out _).2).mono ?_
        rintro e w1 ⟨rfl, hb1⟩
        have hB1 : Below w.heap.size w w1 := (by (repeat (first | (with_reducible refine Below.drew ?_) | (with_reducible refine below_drewN ?_ _) | (with_reducible refine Below.alloc ?_ (by first | omega | (simp; done) | (simp; omega) | (simp at *; omega)) _) | (with_reducible refine Below.setCell ?_ (by first | omega | (simp; done) | (simp; omega) | (simp at *; omega)) _) | (with_reducible exact Below.refl _ _) | (with_reducible assumption) | (with_reducible refine Below.trans ?_ (Below.mono (by assumption) (by first | omega | (simp; done) | (simp; omega) | (simp at *; omega)))))))
        clear hb1
        go_wp2
        go_ret2
        exact ⟨(k : Int), by rw [hr.out]; rfl, hB1⟩
    · have hkk : k = L.length := by omega
      have hr : Hid (E = 0) := Lib.hid (by rw [← hE.out]; exact fstE_z fun j hj => hz.out j (by omega) hj)
      clear hz hkk
      go_wp2
      go_ret2
      exact ⟨0, by rw [hr.out]; rfl, hB⟩
set_option maxHeartbeats 1000000 in
theorem eachLoad_any (L : List Ld) (A : Option Addr) (cap : Nat) (w : World) (hl : L.length ≤ 1000000) (hL : SlLd w A L) :
    Calls Try.prog 42 #[.slice A L.length cap, .func (.func 43) #[] #[]] w fun e w' => e = .returned (.int .i64 (fstE loadE L)) ∧ Below w.heap.size w w' := by
  have HR : Hid (∀ w' : World, Below w.heap.size w w' → SlLd w' A L) := Lib.hid fun w' hB => hL.below hB
  clear hL
  go_enter Try.func42, Try.ntmps42
  go_wp2_with fail
  refine (eachLoadN_any L A cap w.heap.size _ hl (HR.out _ (by (repeat (first | (with_reducible refine Below.drew ?_) | (with_reducible refine below_drewN ?_ _) | (with_reducible refine Below.alloc ?_ (by first | omega | (simp; done) | (simp; omega) | (simp at *; omega)) _) | (with_reducible refine Below.setCell ?_ (by first | omega | (simp; done) | (simp; omega) | (simp at *; omega)) _) | (with_reducible exact Below.refl _ _) | (with_reducible assumption) | (with_reducible refine Below.trans ?_ (Below.mono (by assumption) (by first | omega | (simp; done) | (simp; omega) | (simp at *; omega)))))))) (by simp [go_sem]) (by simp)).mono ?_
  rintro e w1 ⟨i, rfl, hb1⟩
  have hB1 : Below w.heap.size w w1 := (by (repeat (first | (with_reducible refine Below.drew ?_) | (with_reducible refine below_drewN ?_ _) | (with_reducible refine Below.alloc ?_ (by first | omega | (simp; done) | (simp; omega) | (simp at *; omega)) _) | (with_reducible refine Below.setCell ?_ (by first | omega | (simp; done) | (simp; omega) | (simp at *; omega)) _) | (with_reducible exact Below.refl _ _) | (with_reducible assumption) | (with_reducible refine Below.trans ?_ (Below.mono (by assumption) (by first | omega | (simp; done) | (simp; omega) | (simp at *; omega)))))))
  clear hb1
  go_wp2
  go_ret
  exact ⟨rfl, hB1⟩
theorem eachComp1_is (i p0 p1 p2 p3 : Int) (c : Nat) (w : World) (hc : w.cell? ⟨c, 0, none⟩ = some (.func (.func 58) #[] #[])) (hcl : c < w.heap.size) :
    Calls Try.prog 77 #[.int .i64 i, .agg #[.int .i64 p0, .int .i64 p1, .int .i64 p2, .int .i64 p3], .pointer (some ⟨c, 0, none⟩)] w fun e w' => e = .returned (.int .i64 (cmpE p0 p1 p2 p3)) ∧ Below w.heap.size w w' := by
  have o1 : c ≠ w.heap.size := by omega
  have o2 : w.heap.size ≠ c := by omega
  go_enter Try.func77, Try.ntmps77
  go_wp2_with fail
  refine (checkCompartment_any p0 p1 p2 p3 _).mono ?_
  rintro e w1 ⟨rfl, hb1⟩
  have hB1 : Below w.heap.size w w1 := (by (repeat (first | (with_reducible refine Below.drew ?_) | (with_reducible refine below_drewN ?_ _) | (with_reducible refine Below.alloc ?_ (by first | omega | (simp; done) | (simp; omega) | (simp at *; omega)) _) | (with_reducible refine Below.setCell ?_ (by first | omega | (simp; done) | (simp; omega) | (simp at *; omega)) _) | (with_reducible exact Below.refl _ _) | (with_reducible assumption) | (with_reducible refine Below.trans ?_ (Below.mono (by assumption) (by first | omega | (simp; done) | (simp; omega) | (simp at *; omega)))))))
  clear hb1
  go_wp2
  go_ret
  exact ⟨rfl, (by (repeat (first | (with_reducible refine Below.drew ?_) | (with_reducible refine below_drewN ?_ _) | (with_reducible refine Below.alloc ?_ (by first | omega | (simp; done) | (simp; omega) | (simp at *; omega)) _) | (with_reducible refine Below.setCell ?_ (by first | omega | (simp; done) | (simp; omega) | (simp at *; omega)) _) | (with_reducible exact Below.refl _ _) | (with_reducible assumption) | (with_reducible refine Below.trans ?_ (Below.mono (by assumption) (by first | omega | (simp; done) | (simp; omega) | (simp at *; omega)))))))⟩
def eachCompP (E : Int) (w : World) (e : Ending) (w' : World) : Prop := ∃ n : Int, e = .returned (.tuple #[.int .i64 n, .int .i64 E]) ∧ Below w.heap.size w w'
set_option maxRecDepth 100000 in
set_option maxHeartbeats 1000000 in
theorem eachCompN_any (L : List Cm) (A : Option Addr) (cap c : Nat) (w : World) (hl : L.length ≤ 1000000) (hL : SlCm w A L) (hc : w.cell? ⟨c, 0, none⟩ = some (.func (.func 58) #[] #[])) (hcl : c < w.heap.size) :
    Calls Try.prog 76 #[.slice A L.length cap, .func (.func 77) #[] #[.pointer (some ⟨c, 0, none⟩)]] w (eachCompP (fstE compE L) w) := by
  have HC := Lib.hid hc
  clear hc
  obtain ⟨E, hE⟩ : ∃ E, Hid (fstE compE L = E) := ⟨_, Lib.hid rfl⟩
  rw [hE.out]
  rcases hL with rfl | ⟨b, off, rfl, hlt, hL⟩
  · have hr : Hid (E = 0) := Lib.hid (by rw [← hE.out]; rfl)
    clear hE
    go_enter Try.func76, Try.ntmps76
    go_wp2
    refine wp_loop_rounds 1 ?_
    rw [rounds_succ]
    go_wp2
    go_ret2
    exact ⟨0, by rw [hr.out]; rfl, (by (repeat (first | (with_reducible refine Below.drew ?_) | (with_reducible refine below_drewN ?_ _) | (with_reducible refine Below.alloc ?_ (by first | omega | (simp; done) | (simp; omega) | (simp at *; omega)) _) | (with_reducible refine Below.setCell ?_ (by first | omega | (simp; done) | (simp; omega) | (simp at *; omega)) _) | (with_reducible exact Below.refl _ _) | (with_reducible assumption) | (with_reducible refine Below.trans ?_ (Below.mono (by assumption) (by first | omega | (simp; done) | (simp; omega) | (simp at *; omega)))))))⟩
  have HP : Hid (CmAt w b off L) := hL
  clear hL
  go_enter Try.func76, Try.ntmps76
  go_wp2
  go_loopw [11] (fun i wr => ∃ k : Nat, k ≤ L.length ∧ i = .int .i64 k ∧ Hid (∀ j, (hj : j < k) → (hj' : j < L.length) → compE L[j] = 0) ∧ Below w.heap.size w wr) (fun i _ => L.length - (intOf i).toNat)
  case atStart => exact ⟨0, by omega, rfl, fun j hj => by omega, (by (repeat (first | (with_reducible refine Below.drew ?_) | (with_reducible refine below_drewN ?_ _) | (with_reducible refine Below.alloc ?_ (by first | omega | (simp; done) | (simp; omega) | (simp at *; omega)) _) | (with_reducible refine Below.setCell ?_ (by first | omega | (simp; done) | (simp; omega) | (simp at *; omega)) _) | (with_reducible exact Below.refl _ _) | (with_reducible assumption) | (with_reducible refine Below.trans ?_ (Below.mono (by assumption) (by first | omega | (simp; done) | (simp; omega) | (simp at *; omega)))))))⟩
  case round =>
    obtain ⟨k, hk, rfl, hz, hB⟩ := hrel
    by_cases hkl : k < L.length
    · obtain ⟨c0, c1, c2, c3⟩ := HP.out.below hB hlt k hkl
      have hsz := hB.size
      have cw := (hB.cell (p := ⟨c, 0, none⟩) hcl).trans HC.out
      have hcw : c < wr.heap.size := by omega
      have CW : Hid (∀ v : Obj, (wr.alloc v).cell? ⟨c, 0, none⟩ = some (.func (.func 58) #[] #[]) ∧ c < (wr.alloc v).heap.size) := Lib.hid fun v => ⟨(((Below.refl wr.heap.size wr).alloc (Nat.le_refl _) v).cell (p := ⟨c, 0, none⟩) hcw).trans cw, by simp; omega⟩
      obtain ⟨p0, h0⟩ : ∃ x, Hid (L[k].n = x) := ⟨L[k].n, rfl⟩
      obtain ⟨p1, h1⟩ : ∃ x, Hid (L[k].h = x) := ⟨L[k].h, rfl⟩
      obtain ⟨p2, h2⟩ : ∃ x, Hid (L[k].b = x) := ⟨L[k].b, rfl⟩
      obtain ⟨p3, h3⟩ : ∃ x, Hid (L[k].s = x) := ⟨L[k].s, rfl⟩
      rw [h0.out] at c0
      rw [h1.out] at c1
      rw [h2.out] at c2
      rw [h3.out] at c3
      have hpe : Hid (compE L[k] = cmpE p0 p1 p2 p3) := by unfold compE Hid; rw [h0.out, h1.out, h2.out, h3.out]
      obtain ⟨F, hF⟩ : ∃ F, Hid (cmpE p0 p1 p2 p3 = F) := ⟨_, Lib.hid rfl⟩
      have HK := eachComp1_is (k : Int) p0 p1 p2 p3 c
      rw [hF.out] at HK hpe
      have HK2 := Lib.hid HK
      clear HK cw
      rcases ez2 F with ⟨hz0, hzb⟩ | ⟨hz0, hzb⟩
      · have hz2 : Hid (∀ j, (hj : j < k + 1) → (hj' : j < L.length) → compE L[j] = 0) := fun j hj hj' => by
          by_cases e : j = k
          · subst e; rw [hpe.out]; exact hz0.out
          · exact hz.out j (by omega) hj'
        clear hz hz0
        go_wp2_with fail
        refine (HK2.out _ (CW.out _).1 (CW.out _).2).mono ?_
        rintro e w1 ⟨rfl, hb1⟩
        have hB1 : Below w.heap.size w w1 := (by (repeat (first | (with_reducible refine Below.drew ?_) | (with_reducible refine below_drewN ?_ _) | (with_reducible refine Below.alloc ?_ (by first | omega | (simp; done) | (simp; omega) | (simp at *; omega)) _) | (with_reducible refine Below.setCell ?_ (by first | omega | (simp; done) | (simp; omega) | (simp at *; omega)) _) | (with_reducible exact Below.refl _ _) | (with_reducible assumption) | (with_reducible refine Below.trans ?_ (Below.mono (by assumption) (by first | omega | (simp; done) | (simp; omega) | (simp at *; omega)))))))
        clear hb1
        go_wp2
        go_roundw
        case rel => exact ⟨k + 1, by omega, by go_num, hz2, hB1⟩
        case measure => simp [intOf]; omega
      · have hr : Hid (E = F) := Lib.hid (by
          have h1 : compE L[k] ≠ 0 := by rw [hpe.out]; exact hz0.out
          have h2 := fstE_at hkl (fun j hj => hz.out j hj (by omega)) h1
          rw [hpe.out, hE.out] at h2
          exact h2)
        clear hz
        go_wp2_with fail
        refine (HK2.out _ (CW.out _).1 (CW.out _).2).mono ?_
        rintro e w1 ⟨rfl, hb1⟩
        have hB1 : Below w.heap.size w w1 := (by (repeat (first | (with_reducible refine Below.drew ?_) | (with_reducible refine below_drewN ?_ _) | (with_reducible refine Below.alloc ?_ (by first | omega | (simp; done) | (simp; omega) | (simp at *; omega)) _) | (with_reducible refine Below.setCell ?_ (by first | omega | (simp; done) | (simp; omega) | (simp at *; omega)) _) | (with_reducible exact Below.refl _ _) | (with_reducible assumption) | (with_reducible refine Below.trans ?_ (Below.mono (by assumption) (by first | omega | (simp; done) | (simp; omega) | (simp at *; omega)))))))
        clear hb1
        go_wp2
        go_ret2
        exact ⟨(k : Int), by rw [hr.out]; rfl, hB1⟩
    · have hkk : k = L.length := by omega
      have hr : Hid (E = 0) := Lib.hid (by rw [← hE.out]; exact fstE_z fun j hj => hz.out j (by omega) hj)
      clear hz hkk
      go_wp2
      go_ret2
      exact ⟨0, by rw [hr.out]; rfl, hB⟩
set_option maxHeartbeats 1000000 in
theorem eachComp_any (L : List Cm) (A : Option Addr) (cap : Nat) (w : World) (hl : L.length ≤ 1000000) (hL : SlCm w A L) :
    Calls Try.prog 57 #[.slice A L.length cap, .func (.func 58) #[] #[]] w fun e w' => e = .returned (.int .i64 (fstE compE L)) ∧ Below w.heap.size w w' := by
  have HR : Hid (∀ w' : World, Below w.heap.size w w' → SlCm w' A L) := Lib.hid fun w' hB => hL.below hB
  clear hL
  go_enter Try.func57, Try.ntmps57
  go_wp2_with fail
  refine (eachCompN_any L A cap w.heap.size _ hl (HR.out _ (by (repeat (first | (with_reducible refine Below.drew ?_) | (with_reducible refine below_drewN ?_ _) | (with_reducible refine Below.alloc ?_ (by first | omega | (simp; done) | (simp; omega) | (simp at *; omega)) _) | (with_reducible refine Below.setCell ?_ (by first | omega | (simp; done) | (simp; omega) | (simp at *; omega)) _) | (with_reducible exact Below.refl _ _) | (with_reducible assumption) | (with_reducible refine Below.trans ?_ (Below.mono (by assumption) (by first | omega | (simp; done) | (simp; omega) | (simp at *; omega)))))))) (by simp [go_sem]) (by simp)).mono ?_
  rintro e w1 ⟨i, rfl, hb1⟩
  have hB1 : Below w.heap.size w w1 := (by (repeat (first | (with_reducible refine Below.drew ?_) | (with_reducible refine below_drewN ?_ _) | (with_reducible refine Below.alloc ?_ (by first | omega | (simp; done) | (simp; omega) | (simp at *; omega)) _) | (with_reducible refine Below.setCell ?_ (by first | omega | (simp; done) | (simp; omega) | (simp at *; omega)) _) | (with_reducible exact Below.refl _ _) | (with_reducible assumption) | (with_reducible refine Below.trans ?_ (Below.mono (by assumption) (by first | omega | (simp; done) | (simp; omega) | (simp at *; omega)))))))
  clear hb1
  go_wp2
  go_ret
  exact ⟨rfl, hB1⟩
theorem CheckTable_any (T : List Cm) (A : Option Addr) (cap : Nat) (w : World) (hl : T.length ≤ 1000000) (hT : SlCm w A T) :
    Calls Try.prog 41 #[.slice A T.length cap] w fun e w' => e = .returned (.int .i64 (tabE T)) ∧ Below w.heap.size w w' := by
  have HT := Lib.hid hT
  clear hT
  rcases inB_cases T.length 1 16 with h1 | h1
  · have hr : Hid (tabE T = fstE compE T) := by unfold tabE Hid; rw [if_pos h1]
    go_enter Try.func41, Try.ntmps41
    go_wp2_with (first | (go_at_call 52; ((with_reducible refine (cWithin_any _ _ _ _).mono ?_)); rintro e w' ⟨rfl, rfl⟩) | (go_at_call 57; ((with_reducible refine (eachComp_any _ _ _ _ hl HT.out).mono ?_)); rintro e w1 ⟨rfl, hbw⟩; obtain ⟨hbc, hbf⟩ := bcell hbw; have hbs := hbw.size))
    go_ret
    exact ⟨ret_int hr.out.symm, (by (repeat (first | (with_reducible refine Below.drew ?_) | (with_reducible refine below_drewN ?_ _) | (with_reducible refine Below.alloc ?_ (by first | omega | (simp; done) | (simp; omega) | (simp at *; omega)) _) | (with_reducible refine Below.setCell ?_ (by first | omega | (simp; done) | (simp; omega) | (simp at *; omega)) _) | (with_reducible exact Below.refl _ _) | (with_reducible assumption) | (with_reducible refine Below.trans ?_ (Below.mono (by assumption) (by first | omega | (simp; done) | (simp; omega) | (simp at *; omega)))))))⟩
  · have hr : Hid (tabE T = 10) := by unfold tabE Hid; rw [h1]; rfl
    go_enter Try.func41, Try.ntmps41
    go_wp2_with ((go_at_call 52; ((with_reducible refine (cWithin_any _ _ _ _).mono ?_)); rintro e w' ⟨rfl, rfl⟩))
    go_ret
    exact ⟨ret_int hr.out.symm, (by (repeat (first | (with_reducible refine Below.drew ?_) | (with_reducible refine below_drewN ?_ _) | (with_reducible refine Below.alloc ?_ (by first | omega | (simp; done) | (simp; omega) | (simp at *; omega)) _) | (with_reducible refine Below.setCell ?_ (by first | omega | (simp; done) | (simp; omega) | (simp at *; omega)) _) | (with_reducible exact Below.refl _ _) | (with_reducible assumption) | (with_reducible refine Below.trans ?_ (Below.mono (by assumption) (by first | omega | (simp; done) | (simp; omega) | (simp at *; omega)))))))⟩
theorem CheckLoads_any (T : List Cm) (L : List Ld) (A B : Option Addr) (cap cap' : Nat) (w : World) (hl : T.length ≤ 1000000) (hl' : L.length ≤ 1000000) (hT : SlCm w A T) (hL : SlLd w B L) :
    Calls Try.prog 24 #[.slice A T.length cap, .slice B L.length cap'] w fun e w' => e = .returned (.int .i64 (loadsE T L)) ∧ Below w.heap.size w w' := by
  have HT := Lib.hid hT
  have HL := Lib.hid hL
  clear hT hL
  rcases ez2 (tabE T) with ⟨hz0, hzb⟩ | ⟨hz0, hzb⟩
  · by_cases hle : L.length = T.length
    · have hr : Hid (loadsE T L = fstE loadE L) := by unfold loadsE Hid; rw [if_pos hz0.out, if_pos hle]
      have hb : ((L.length : Int) != (T.length : Int)) = false := neI_f (by omega)
      clear hle
      go_enter Try.func24, Try.ntmps24
      go_wp2_with ((go_at_call 41; ((with_reducible refine (CheckTable_any _ _ _ _ hl HT.out).mono ?_)); rintro e w1 ⟨rfl, hbw⟩; obtain ⟨hbc, hbf⟩ := bcell hbw; have hbs := hbw.size))
      go_wp2_with ((go_at_call 42; ((with_reducible refine (eachLoad_any _ _ _ _ hl' (HL.out.below hbw)).mono ?_)); rintro e w2 ⟨rfl, hbw2⟩; obtain ⟨hbc2, hbf2⟩ := bcell hbw2; have hbs2 := hbw2.size))
      go_ret
      exact ⟨ret_int hr.out.symm, (by (repeat (first | (with_reducible refine Below.drew ?_) | (with_reducible refine below_drewN ?_ _) | (with_reducible refine Below.alloc ?_ (by first | omega | (simp; done) | (simp; omega) | (simp at *; omega)) _) | (with_reducible refine Below.setCell ?_ (by first | omega | (simp; done) | (simp; omega) | (simp at *; omega)) _) | (with_reducible exact Below.refl _ _) | (with_reducible assumption) | (with_reducible refine Below.trans ?_ (Below.mono (by assumption) (by first | omega | (simp; done) | (simp; omega) | (simp at *; omega)))))))⟩
    · have hr : Hid (loadsE T L = 10) := by unfold loadsE Hid; rw [if_pos hz0.out, if_neg hle]
      have hb : ((L.length : Int) != (T.length : Int)) = true := neI_t (by omega)
      clear hle
      go_enter Try.func24, Try.ntmps24
      go_wp2_with ((go_at_call 41; ((with_reducible refine (CheckTable_any _ _ _ _ hl HT.out).mono ?_)); rintro e w1 ⟨rfl, hbw⟩; obtain ⟨hbc, hbf⟩ := bcell hbw; have hbs := hbw.size))
      go_ret
      exact ⟨ret_int hr.out.symm, (by (repeat (first | (with_reducible refine Below.drew ?_) | (with_reducible refine below_drewN ?_ _) | (with_reducible refine Below.alloc ?_ (by first | omega | (simp; done) | (simp; omega) | (simp at *; omega)) _) | (with_reducible refine Below.setCell ?_ (by first | omega | (simp; done) | (simp; omega) | (simp at *; omega)) _) | (with_reducible exact Below.refl _ _) | (with_reducible assumption) | (with_reducible refine Below.trans ?_ (Below.mono (by assumption) (by first | omega | (simp; done) | (simp; omega) | (simp at *; omega)))))))⟩
  · have hr : Hid (loadsE T L = tabE T) := by unfold loadsE Hid; rw [if_neg hz0.out]
    go_enter Try.func24, Try.ntmps24
    go_wp2_with ((go_at_call 41; ((with_reducible refine (CheckTable_any _ _ _ _ hl HT.out).mono ?_)); rintro e w1 ⟨rfl, hbw⟩; obtain ⟨hbc, hbf⟩ := bcell hbw; have hbs := hbw.size))
    go_ret
    exact ⟨ret_int hr.out.symm, (by (repeat (first | (with_reducible refine Below.drew ?_) | (with_reducible refine below_drewN ?_ _) | (with_reducible refine Below.alloc ?_ (by first | omega | (simp; done) | (simp; omega) | (simp at *; omega)) _) | (with_reducible refine Below.setCell ?_ (by first | omega | (simp; done) | (simp; omega) | (simp at *; omega)) _) | (with_reducible exact Below.refl _ _) | (with_reducible assumption) | (with_reducible refine Below.trans ?_ (Below.mono (by assumption) (by first | omega | (simp; done) | (simp; omega) | (simp at *; omega)))))))⟩
end Go.Proofs.Ytfaodlcfjhnhbaa

/- A right table with right loads. -/
namespace Go.Proofs.Ytfaodlcfjhnhbaa
open Go.ChangeShapes Go.WideShapes Go.ChangeAt Go.RowKit
set_option linter.unusedVariables false
set_option linter.unusedSimpArgs false
theorem cmp_ok {x : Cm} (h : compE x = 0) : (1 ≤ x.n ∧ x.n ≤ 100000) ∧ (1 ≤ x.h ∧ x.h ≤ 100000) ∧ (0 ≤ x.b ∧ x.b ≤ 10000) ∧ (1000 ≤ x.s ∧ x.s ≤ 10000) := by
  unfold compE cmpE at h
  rcases inB_cases x.n 1 100000 with h1 | h1
  · rcases inB_cases x.h 1 100000 with h2 | h2
    · rcases inB_cases x.b 0 10000 with h3 | h3
      · rcases inB_cases x.s 1000 10000 with h4 | h4
        · exact ⟨inB_iff.1 h1, inB_iff.1 h2, inB_iff.1 h3, inB_iff.1 h4⟩
        · rw [rngE_t h1, rngE_t h2, rngE_t h3, rngE_f h4] at h; simp [firE] at h
      · rw [rngE_t h1, rngE_t h2, rngE_f h3] at h; simp [firE] at h
    · rw [rngE_t h1, rngE_f h2] at h; simp [firE] at h
  · rw [rngE_f h1] at h; simp [firE] at h
/-- A right table with right loads. -/
structure Fit (T : List Cm) (L : List Ld) : Prop where
  len : L.length = T.length
  one : 1 ≤ T.length
  most : T.length ≤ 16
  cm : ∀ k, (hk : k < T.length) → compE T[k] = 0
  ld : ∀ k, (hk : k < L.length) → loadE L[k] = 0
theorem fit_of {T : List Cm} {L : List Ld} (h : loadsE T L = 0) : Fit T L := by
  unfold loadsE at h
  by_cases ht : tabE T = 0
  · rw [if_pos ht] at h
    by_cases hl : L.length = T.length
    · rw [if_pos hl] at h
      unfold tabE at ht
      rcases inB_cases (T.length : Int) 1 16 with h1 | h1
      · rw [if_pos h1] at ht
        have := inB_iff.1 h1
        exact ⟨hl, by omega, by omega, fun k hk => fstE_all ht k hk, fun k hk => fstE_all h k hk⟩
      · rw [if_neg (by rw [h1]; exact Bool.false_ne_true)] at ht; cases ht
    · rw [if_neg hl] at h; cases h
  · rw [if_neg ht] at h; exact absurd h ht
theorem CheckLoads_is (T : List Cm) (L : List Ld) (A B : Option Addr) (cap cap' : Nat) (r : Int) (w : World) (hl : T.length ≤ 1000000) (hl' : L.length ≤ 1000000) (hr : Hid (loadsE T L = r)) (hT : SlCm w A T) (hL : SlLd w B L) :
    Calls Try.prog 24 #[.slice A T.length cap, .slice B L.length cap'] w fun e w' => e = .returned (.int .i64 r) ∧ Below w.heap.size w w' := by
  rw [← hr.out]; exact CheckLoads_any T L A B cap cap' w hl hl' hT hL
end Go.Proofs.Ytfaodlcfjhnhbaa

/- Limits, both ends of a load together, the least pressure; the error of a leg. -/
namespace Go.Proofs.Ytfaodlcfjhnhbaa
open Go.ChangeShapes Go.WideShapes Go.ChangeAt Go.RowKit
set_option linter.unusedVariables false
set_option linter.unusedSimpArgs false
theorem limitOf_any (n h b s f : Int) (w : World) (f0 : 0 ≤ f) (f1 : f ≤ 1000) (b0 : 0 ≤ b) (b1 : b ≤ 10000) (s0 : 1000 ≤ s) (s1 : s ≤ 10000) :
    Calls Try.prog 69 #[.agg #[.int .i64 n, .int .i64 h, .int .i64 b, .int .i64 s], .int .i64 f] w fun e w' => e = .returned (.agg #[.int .i64 (f * 1000 * b), .int .i64 (1000000 + f * (s - 1000))]) ∧ Below w.heap.size w w' := by
  obtain ⟨P, hP⟩ : ∃ x, Hid (f * 1000 * b = x) := ⟨_, rfl⟩
  obtain ⟨Q, hQ⟩ : ∃ x, Hid (f * (s - 1000) = x) := ⟨_, rfl⟩
  have p0 : 0 ≤ P := by rw [← hP.out]; exact Int.mul_nonneg (by omega) b0
  have p1 : P ≤ 10000000000 := by rw [← hP.out]; exact Int.le_trans (Int.mul_le_mul (show f * 1000 ≤ 1000000 by omega) b1 b0 (by omega)) (by omega)
  have q0 : 0 ≤ Q := by rw [← hQ.out]; exact Int.mul_nonneg f0 (by omega)
  have q1 : Q ≤ 9000000 := by rw [← hQ.out]; exact Int.le_trans (Int.mul_le_mul f1 (show s - 1000 ≤ 9000 by omega) (by omega) (by omega)) (by omega)
  have e1 : IntKind.i64.wrap (f * 1000 * b) = P := mul_wrap hP.out p0 (by omega)
  have e2 : f * 1000 * b = P := hP.out
  have e3 : IntKind.i64.wrap (f * (s - 1000)) = Q := mul_wrap hQ.out q0 (by omega)
  have e4 : f * (s - 1000) = Q := hQ.out
  rw [hP.out, hQ.out]
  clear hP hQ
  go_enter Try.func69, Try.ntmps69
  go_wp2
  refine bodyPost_ret (v := .agg #[.int .i64 P, .int .i64 (1000000 + Q)]) (by simp [results, Try.results69, go_sem, World.cell?_alloc_past]) rfl ⟨rfl, ?_⟩
  (repeat (first | (with_reducible refine Below.drew ?_) | (with_reducible refine below_drewN ?_ _) | (with_reducible refine Below.alloc ?_ (by first | omega | (simp; done) | (simp; omega) | (simp at *; omega)) _) | (with_reducible refine Below.setCell ?_ (by first | omega | (simp; done) | (simp; omega) | (simp at *; omega)) _) | (with_reducible exact Below.refl _ _) | (with_reducible assumption) | (with_reducible refine Below.trans ?_ (Below.mono (by assumption) (by first | omega | (simp; done) | (simp; omega) | (simp at *; omega))))))
theorem endsOf_any (a b c d : Int) (w : World) (a0 : 0 ≤ a ∧ a ≤ 100000000) (b0 : 0 ≤ b ∧ b ≤ 100000000) (c0 : 0 ≤ c ∧ c ≤ 100000000) (d0 : 0 ≤ d ∧ d ≤ 100000000) :
    Calls Try.prog 70 #[.agg #[.int .i64 a, .int .i64 b, .int .i64 c, .int .i64 d]] w fun e w' => e = .returned (.agg #[.int .i64 (a + c), .int .i64 (b + d)]) ∧ Below w.heap.size w w' := by
  obtain ⟨a1, a2⟩ := a0
  obtain ⟨b1, b2⟩ := b0
  obtain ⟨c1, c2⟩ := c0
  obtain ⟨d1, d2⟩ := d0
  go_enter Try.func70, Try.ntmps70
  go_wp2
  refine bodyPost_ret (v := .agg #[.int .i64 (a + c), .int .i64 (b + d)]) (by simp [results, Try.results70, go_sem, World.cell?_alloc_past]) rfl ⟨rfl, ?_⟩
  (repeat (first | (with_reducible refine Below.drew ?_) | (with_reducible refine below_drewN ?_ _) | (with_reducible refine Below.alloc ?_ (by first | omega | (simp; done) | (simp; omega) | (simp at *; omega)) _) | (with_reducible refine Below.setCell ?_ (by first | omega | (simp; done) | (simp; omega) | (simp at *; omega)) _) | (with_reducible exact Below.refl _ _) | (with_reducible assumption) | (with_reducible refine Below.trans ?_ (Below.mono (by assumption) (by first | omega | (simp; done) | (simp; omega) | (simp at *; omega))))))
/-- The least whole pressure at which a load is within a limit, a line from b with the slope s. -/
def lstP (b s x : Int) : Int := (max 0 (1000 * x - b) + s - 1) / s
/-- The error of a leg. -/
def legE (f t s o h : Int) : Int := if firE [rngE f 400 31100, rngE t 400 31100, rngE s 0 100000, gasE o h] = 0 then if s = 0 ∧ f ≠ t then 11 else 0 else firE [rngE f 400 31100, rngE t 400 31100, rngE s 0 100000, gasE o h]
set_option maxHeartbeats 2000000 in
theorem CheckLeg_any (f t s o h : Int) (w : World) :
    Calls Try.prog 25 #[.agg #[.int .i64 f, .int .i64 t, .int .i64 s, .int .i64 o, .int .i64 h]] w fun e w' => e = .returned (.int .i64 (legE f t s o h)) ∧ Below w.heap.size w w' := by
  obtain ⟨E, hE⟩ : ∃ x, Hid (legE f t s o h = x) := ⟨_, rfl⟩
  rw [hE.out]
  rcases ez2 (firE [rngE f 400 31100, rngE t 400 31100, rngE s 0 100000, gasE o h]) with ⟨hz0, hzb⟩ | ⟨hz0, hzb⟩
  · by_cases hs : s = 0
    · by_cases hf : f = t
      · have hr : Hid (E = 0) := by show _ = _; rw [← hE.out, legE, if_pos hz0.out, if_neg (by simp [hf])]
        have k1 : (s == 0) = true := by simp [hs]
        have k2 : (f != t) = false := by simp [hf]
        clear hE hz0 hs hf
        go_enter Try.func25, Try.ntmps25
        go_wp2
        go_region_held3 (fun w' => w'.cell? ⟨w.heap.size, 0, none⟩ = some (.int .i64 f) ∧ w'.cell? ⟨w.heap.size, 1, none⟩ = some (.int .i64 t) ∧ w'.cell? ⟨w.heap.size, 2, none⟩ = some (.int .i64 s) ∧ w'.cell? ⟨w.heap.size, 3, none⟩ = some (.int .i64 o) ∧ w'.cell? ⟨w.heap.size, 4, none⟩ = some (.int .i64 h)) (simp [go_sem, World.cell?_alloc_past])
          (first
            | (go_at_call 44; ((with_reducible refine (tcheckPressure_any _ _).mono ?_)); rintro e w' ⟨rfl, rfl⟩)
            | (go_at_call 35; ((with_reducible refine (cRange_any _ _ _ _).mono ?_)); rintro e w' ⟨rfl, rfl⟩)
            | (go_at_call 45; ((with_reducible refine (CheckGas_any _ _ _).mono ?_)); rintro e w' ⟨rfl, rfl⟩)
            | (go_at_call 23; ((with_reducible refine (cFirst4c (rngE f 400 31100) (rngE t 400 31100) (rngE s 0 100000) (gasE o h) _ _ (by simp [go_sem]) (by simp [go_sem]) (by simp [go_sem]) (by simp [go_sem])).mono ?_)); rintro e w' ⟨rfl, rfl⟩))
        go_wp2
        go_ret
        exact ⟨ret_int hr.out.symm, (by (repeat (first | (with_reducible refine Below.drew ?_) | (with_reducible refine below_drewN ?_ _) | (with_reducible refine Below.alloc ?_ (by first | omega | (simp; done) | (simp; omega) | (simp at *; omega)) _) | (with_reducible refine Below.setCell ?_ (by first | omega | (simp; done) | (simp; omega) | (simp at *; omega)) _) | (with_reducible exact Below.refl _ _) | (with_reducible assumption) | (with_reducible refine Below.trans ?_ (Below.mono (by assumption) (by first | omega | (simp; done) | (simp; omega) | (simp at *; omega)))))))⟩
      · have hr : Hid (E = 11) := by show _ = _; rw [← hE.out, legE, if_pos hz0.out, if_pos ⟨hs, hf⟩]
        have k1 : (s == 0) = true := by simp [hs]
        have k2 : (f != t) = true := by simp [hf]
        clear hE hz0 hs hf
        go_enter Try.func25, Try.ntmps25
        go_wp2
        go_region_held3 (fun w' => w'.cell? ⟨w.heap.size, 0, none⟩ = some (.int .i64 f) ∧ w'.cell? ⟨w.heap.size, 1, none⟩ = some (.int .i64 t) ∧ w'.cell? ⟨w.heap.size, 2, none⟩ = some (.int .i64 s) ∧ w'.cell? ⟨w.heap.size, 3, none⟩ = some (.int .i64 o) ∧ w'.cell? ⟨w.heap.size, 4, none⟩ = some (.int .i64 h)) (simp [go_sem, World.cell?_alloc_past])
          (first
            | (go_at_call 44; ((with_reducible refine (tcheckPressure_any _ _).mono ?_)); rintro e w' ⟨rfl, rfl⟩)
            | (go_at_call 35; ((with_reducible refine (cRange_any _ _ _ _).mono ?_)); rintro e w' ⟨rfl, rfl⟩)
            | (go_at_call 45; ((with_reducible refine (CheckGas_any _ _ _).mono ?_)); rintro e w' ⟨rfl, rfl⟩)
            | (go_at_call 23; ((with_reducible refine (cFirst4c (rngE f 400 31100) (rngE t 400 31100) (rngE s 0 100000) (gasE o h) _ _ (by simp [go_sem]) (by simp [go_sem]) (by simp [go_sem]) (by simp [go_sem])).mono ?_)); rintro e w' ⟨rfl, rfl⟩))
        go_wp2
        go_ret
        exact ⟨ret_int hr.out.symm, (by (repeat (first | (with_reducible refine Below.drew ?_) | (with_reducible refine below_drewN ?_ _) | (with_reducible refine Below.alloc ?_ (by first | omega | (simp; done) | (simp; omega) | (simp at *; omega)) _) | (with_reducible refine Below.setCell ?_ (by first | omega | (simp; done) | (simp; omega) | (simp at *; omega)) _) | (with_reducible exact Below.refl _ _) | (with_reducible assumption) | (with_reducible refine Below.trans ?_ (Below.mono (by assumption) (by first | omega | (simp; done) | (simp; omega) | (simp at *; omega)))))))⟩
    · have hr : Hid (E = 0) := by show _ = _; rw [← hE.out, legE, if_pos hz0.out, if_neg (fun h => hs h.1)]
      have k1 : (s == 0) = false := by simp [hs]
      clear hE hz0 hs
      go_enter Try.func25, Try.ntmps25
      go_wp2
      go_region_held3 (fun w' => w'.cell? ⟨w.heap.size, 0, none⟩ = some (.int .i64 f) ∧ w'.cell? ⟨w.heap.size, 1, none⟩ = some (.int .i64 t) ∧ w'.cell? ⟨w.heap.size, 2, none⟩ = some (.int .i64 s) ∧ w'.cell? ⟨w.heap.size, 3, none⟩ = some (.int .i64 o) ∧ w'.cell? ⟨w.heap.size, 4, none⟩ = some (.int .i64 h)) (simp [go_sem, World.cell?_alloc_past])
        (first
          | (go_at_call 44; ((with_reducible refine (tcheckPressure_any _ _).mono ?_)); rintro e w' ⟨rfl, rfl⟩)
          | (go_at_call 35; ((with_reducible refine (cRange_any _ _ _ _).mono ?_)); rintro e w' ⟨rfl, rfl⟩)
          | (go_at_call 45; ((with_reducible refine (CheckGas_any _ _ _).mono ?_)); rintro e w' ⟨rfl, rfl⟩)
          | (go_at_call 23; ((with_reducible refine (cFirst4c (rngE f 400 31100) (rngE t 400 31100) (rngE s 0 100000) (gasE o h) _ _ (by simp [go_sem]) (by simp [go_sem]) (by simp [go_sem]) (by simp [go_sem])).mono ?_)); rintro e w' ⟨rfl, rfl⟩))
      go_wp2
      go_ret
      exact ⟨ret_int hr.out.symm, (by (repeat (first | (with_reducible refine Below.drew ?_) | (with_reducible refine below_drewN ?_ _) | (with_reducible refine Below.alloc ?_ (by first | omega | (simp; done) | (simp; omega) | (simp at *; omega)) _) | (with_reducible refine Below.setCell ?_ (by first | omega | (simp; done) | (simp; omega) | (simp at *; omega)) _) | (with_reducible exact Below.refl _ _) | (with_reducible assumption) | (with_reducible refine Below.trans ?_ (Below.mono (by assumption) (by first | omega | (simp; done) | (simp; omega) | (simp at *; omega)))))))⟩
  · have hr : Hid (E = firE [rngE f 400 31100, rngE t 400 31100, rngE s 0 100000, gasE o h]) := by show _ = _; rw [← hE.out, legE, if_neg hz0.out]
    clear hE hz0
    go_enter Try.func25, Try.ntmps25
    go_wp2
    go_region_held3 (fun w' => w'.cell? ⟨w.heap.size, 0, none⟩ = some (.int .i64 f) ∧ w'.cell? ⟨w.heap.size, 1, none⟩ = some (.int .i64 t) ∧ w'.cell? ⟨w.heap.size, 2, none⟩ = some (.int .i64 s) ∧ w'.cell? ⟨w.heap.size, 3, none⟩ = some (.int .i64 o) ∧ w'.cell? ⟨w.heap.size, 4, none⟩ = some (.int .i64 h)) (simp [go_sem, World.cell?_alloc_past])
      (first
        | (go_at_call 44; ((with_reducible refine (tcheckPressure_any _ _).mono ?_)); rintro e w' ⟨rfl, rfl⟩)
        | (go_at_call 35; ((with_reducible refine (cRange_any _ _ _ _).mono ?_)); rintro e w' ⟨rfl, rfl⟩)
        | (go_at_call 45; ((with_reducible refine (CheckGas_any _ _ _).mono ?_)); rintro e w' ⟨rfl, rfl⟩)
        | (go_at_call 23; ((with_reducible refine (cFirst4c (rngE f 400 31100) (rngE t 400 31100) (rngE s 0 100000) (gasE o h) _ _ (by simp [go_sem]) (by simp [go_sem]) (by simp [go_sem]) (by simp [go_sem])).mono ?_)); rintro e w' ⟨rfl, rfl⟩))
    go_wp2
    go_ret
    exact ⟨ret_int hr.out.symm, (by (repeat (first | (with_reducible refine Below.drew ?_) | (with_reducible refine below_drewN ?_ _) | (with_reducible refine Below.alloc ?_ (by first | omega | (simp; done) | (simp; omega) | (simp at *; omega)) _) | (with_reducible refine Below.setCell ?_ (by first | omega | (simp; done) | (simp; omega) | (simp at *; omega)) _) | (with_reducible exact Below.refl _ _) | (with_reducible assumption) | (with_reducible refine Below.trans ?_ (Below.mono (by assumption) (by first | omega | (simp; done) | (simp; omega) | (simp at *; omega)))))))⟩
end Go.Proofs.Ytfaodlcfjhnhbaa
