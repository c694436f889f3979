import Derived.Test.YtojaompfffpofaaGreatZOSCalm
import Derived.Test.YtojaompfffpofaaGreatZOSRefSw
import Derived.Outline
namespace Go.Proofs.YtojaompfffpofaaGreat
open Go.ChangeShapes Go.WideShapes Go.ChangeAt Go.RowKit
set_option linter.unusedVariables false
set_option linter.unusedSimpArgs false
attribute [local go_sem ↓] Go.wp_at_zero Go.wp_at_succ
theorem wnE_1 {p q r : Int} (h : inB p 0 1000000 = false) : wnE ⟨p, q, r⟩ = 2 := by unfold wnE; dsimp only; rw [rngE_f h]; rfl
theorem wnE_2 {p q r : Int} (h1 : inB p 0 1000000 = true) (h : inB q 0 7 = false) : wnE ⟨p, q, r⟩ = 2 := by unfold wnE; dsimp only; rw [rngE_t h1, rngE_f h]; rfl
theorem wnE_3 {p q r : Int} (h1 : inB p 0 1000000 = true) (h2 : inB q 0 7 = true) (h : inB r 0 200 = false) : wnE ⟨p, q, r⟩ = 2 := by unfold wnE; dsimp only; rw [rngE_t h1, rngE_t h2, rngE_f h]; rfl
theorem wnE_0 {p q r : Int} (h1 : inB p 0 1000000 = true) (h2 : inB q 0 7 = true) (h : inB r 0 200 = true) : wnE ⟨p, q, r⟩ = 0 := by unfold wnE; dsimp only; rw [rngE_t h1, rngE_t h2, rngE_t h]; rfl
set_option maxRecDepth 100000 in
set_option maxHeartbeats 2000000 in
theorem refWinds_is (L : List Wi) (A : Option Addr) (cap n : Nat) (E : Int) (w : World) (hn : Hid (n = L.length)) (hl : n ≤ 1000000) (hL : SlRows wiV 3 w A L) (hE : Hid (wndE L = E)) :
    Calls Tryz.prog 36 #[.slice A n cap] w fun e w' => e = .returned (.int .i64 E) ∧ Below w.heap.size w w' := by
  have he := hE.out
  unfold wndE at he
  rw [← hn.out] at he
  clear hE
  by_cases h0 : n = 0
  · rw [if_pos h0] at he
    have HE := Lib.hid he
    have i0 : (n : Int) = 0 := by omega
    have i1 : ((n : Int) == 0) = true := by simp [i0]
    subst h0
    clear he
    go_enter Tryz.func36, Tryz.ntmps36
    go_wp2
    go_ret
    exact ⟨ret_int HE.out, (by (repeat (first | (with_reducible refine Below.drew ?_) | (with_reducible refine below_drewN ?_ _) | (with_reducible refine Below.alloc ?_ (by first | omega | (simp; done) | (simp; omega) | (simp at *; omega)) _) | (with_reducible refine Below.setCell ?_ (by first | omega | (simp; done) | (simp; omega) | (simp at *; omega)) _) | (with_reducible exact Below.refl _ _) | (with_reducible assumption) | (with_reducible refine Below.trans ?_ (Below.mono (by assumption) (by first | omega | (simp; done) | (simp; omega) | (simp at *; omega)))))))⟩
  rw [if_neg h0] at he
  have i9 : ¬ (n : Int) = 0 := by omega
  have i8 : ((n : Int) == 0) = false := by simpa using i9
  by_cases h60 : n ≤ 60
  · rw [if_pos h60] at he
    have HE := Lib.hid he
    have i0 : ¬ (60 : Int) < (n : Int) := by omega
    clear he h60
    have HR : Hid (∀ w' : World, Below w.heap.size w w' → SlRows wiV 3 w' A L) := Lib.hid fun w' hB => hL.below hB
    clear hL
    go_enter Tryz.func36, Tryz.ntmps36
    go_wp2
    go_loopw [3] (fun i wr => ∃ k : Nat, k ≤ n ∧ i = .int .i64 k ∧ Hid (fstD L k = 0) ∧ Below w.heap.size w wr) (fun i _ => n - (intOf i).toNat)
    case atStart => exact ⟨0, by omega, rfl, Lib.hid rfl, (by (repeat (first | (with_reducible refine Below.drew ?_) | (with_reducible refine below_drewN ?_ _) | (with_reducible refine Below.alloc ?_ (by first | omega | (simp; done) | (simp; omega) | (simp at *; omega)) _) | (with_reducible refine Below.setCell ?_ (by first | omega | (simp; done) | (simp; omega) | (simp at *; omega)) _) | (with_reducible exact Below.refl _ _) | (with_reducible assumption) | (with_reducible refine Below.trans ?_ (Below.mono (by assumption) (by first | omega | (simp; done) | (simp; omega) | (simp at *; omega)))))))⟩
    case round =>
      obtain ⟨k, hk, rfl, hz, hB⟩ := hrel
      have hsz := hB.size
      by_cases hkn : k < n
      · have hkl : k < L.length := by have := hn.out; omega
        have kn : (k : Int) < (n : Int) := by omega
        rcases HR.out _ hB with h1 | ⟨bl, off, rfl, hlt, hR⟩
        · rw [h1] at hkl; simp at hkl
        obtain ⟨d0, d1, d2⟩ := wi_at hR hkl
        obtain ⟨⟨p, q, r⟩, hx⟩ : ∃ x, Hid (L.getD k default = x) := ⟨_, Lib.hid rfl⟩
        rw [hx.out] at d0 d1 d2
        dsimp only at d0 d1 d2
        have stop : ∀ v : Int, wndF L k = v → v ≠ 0 → E = v := fun v h1 h2 => by rw [← HE.out, fstD_stop hz.out (by rw [h1]; exact h2) n hkn, h1]
        have bad : wnE ⟨p, q, r⟩ = 2 → Hid (E = 2) := fun h => Lib.hid (stop 2 (by unfold wndF; rw [hx.out, h]; rfl) (by omega))
        cases e1 : inB p 0 1000000 with
        | false =>
          have hr := bad (wnE_1 e1)
          have H1 := Lib.hid e1
          clear hR stop bad hz e1
          go_wp2_with ((go_at_call 39; ((with_reducible refine (isMin_is _ _ _ H1).mono ?_)); rintro e w' ⟨rfl, rfl⟩))
          go_ret
          exact ⟨ret_int hr.out.symm, (by (repeat (first | (with_reducible refine Below.drew ?_) | (with_reducible refine below_drewN ?_ _) | (with_reducible refine Below.alloc ?_ (by first | omega | (simp; done) | (simp; omega) | (simp at *; omega)) _) | (with_reducible refine Below.setCell ?_ (by first | omega | (simp; done) | (simp; omega) | (simp at *; omega)) _) | (with_reducible exact Below.refl _ _) | (with_reducible assumption) | (with_reducible refine Below.trans ?_ (Below.mono (by assumption) (by first | omega | (simp; done) | (simp; omega) | (simp at *; omega)))))))⟩
        | true =>
          have H1 := Lib.hid e1
          cases e2 : inB q 0 7 with
          | false =>
            have hr := bad (wnE_2 e1 e2)
            have H2 := Lib.hid e2
            clear hR stop bad hz e1 e2
            go_wp2_with (first | (go_at_call 39; ((with_reducible refine (isMin_is _ _ _ H1).mono ?_)); rintro e w' ⟨rfl, rfl⟩) | (go_at_call 23; ((with_reducible refine (bWth_is _ _ _ _ _ H2).mono ?_)); rintro e w' ⟨rfl, rfl⟩))
            go_ret
            exact ⟨ret_int hr.out.symm, (by (repeat (first | (with_reducible refine Below.drew ?_) | (with_reducible refine below_drewN ?_ _) | (with_reducible refine Below.alloc ?_ (by first | omega | (simp; done) | (simp; omega) | (simp at *; omega)) _) | (with_reducible refine Below.setCell ?_ (by first | omega | (simp; done) | (simp; omega) | (simp at *; omega)) _) | (with_reducible exact Below.refl _ _) | (with_reducible assumption) | (with_reducible refine Below.trans ?_ (Below.mono (by assumption) (by first | omega | (simp; done) | (simp; omega) | (simp at *; omega)))))))⟩
          | true =>
            have H2 := Lib.hid e2
            cases e3 : inB r 0 200 with
            | false =>
              have hr := bad (wnE_3 e1 e2 e3)
              have H3 := Lib.hid e3
              clear hR stop bad hz e1 e2 e3
              go_wp2_with (first | (go_at_call 39; ((with_reducible refine (isMin_is _ _ _ H1).mono ?_)); rintro e w' ⟨rfl, rfl⟩) | (go_at_call 23; ((with_reducible refine (bWth_is _ _ _ _ _ H2).mono ?_)); rintro e w' ⟨rfl, rfl⟩) | (go_at_call 23; ((with_reducible refine (bWth_is _ _ _ _ _ H3).mono ?_)); rintro e w' ⟨rfl, rfl⟩))
              go_ret
              exact ⟨ret_int hr.out.symm, (by (repeat (first | (with_reducible refine Below.drew ?_) | (with_reducible refine below_drewN ?_ _) | (with_reducible refine Below.alloc ?_ (by first | omega | (simp; done) | (simp; omega) | (simp at *; omega)) _) | (with_reducible refine Below.setCell ?_ (by first | omega | (simp; done) | (simp; omega) | (simp at *; omega)) _) | (with_reducible exact Below.refl _ _) | (with_reducible assumption) | (with_reducible refine Below.trans ?_ (Below.mono (by assumption) (by first | omega | (simp; done) | (simp; omega) | (simp at *; omega)))))))⟩
            | true =>
              have H3 := Lib.hid e3
              have hw0 := Lib.hid (wnE_0 e1 e2 e3)
              have HRR : Hid (∀ j, j < L.length → wr.cell? ⟨bl, off + j * 3, none⟩ = some (.int .i64 (L.getD j default).f)) := Lib.hid fun j hj => (wi_at hR hj).1
              have hcl := ordB_cases L k
              rw [hx.out] at hcl
              dsimp only at hcl
              clear e1 e2 e3 bad hR
              rcases hcl with ⟨hk0, hc⟩ | ⟨hk0, hh, hc⟩ | ⟨hk0, hh, hc⟩
              · have hW : Hid (fstD L (k + 1) = 0) := Lib.hid (by rw [fstD, if_pos hz.out]; unfold wndF; rw [hx.out, hw0.out, hc]; simp)
                have j0 : decide ((0 : Int) < (k : Int)) = false := by simp; omega
                have j0n : decide (0 < k) = false := by simp; omega
                clear hk0 hz hw0 hc stop
                go_wp2_with (first | (go_at_call 39; ((with_reducible refine (isMin_is _ _ _ H1).mono ?_)); rintro e w' ⟨rfl, rfl⟩) | (go_at_call 23; ((with_reducible refine (bWth_is _ _ _ _ _ H2).mono ?_)); rintro e w' ⟨rfl, rfl⟩) | (go_at_call 23; ((with_reducible refine (bWth_is _ _ _ _ _ H3).mono ?_)); rintro e w' ⟨rfl, rfl⟩))
                go_big_quiet (fail)
                go_wp2
                go_roundw
                case rel => exact ⟨k + 1, by omega, by go_num, hW, (by (repeat (first | (with_reducible refine Below.drew ?_) | (with_reducible refine below_drewN ?_ _) | (with_reducible refine Below.alloc ?_ (by first | omega | (simp; done) | (simp; omega) | (simp at *; omega)) _) | (with_reducible refine Below.setCell ?_ (by first | omega | (simp; done) | (simp; omega) | (simp at *; omega)) _) | (with_reducible exact Below.refl _ _) | (with_reducible assumption) | (with_reducible refine Below.trans ?_ (Below.mono (by assumption) (by first | omega | (simp; done) | (simp; omega) | (simp at *; omega)))))))⟩
                case measure => (simp [intOf]) <;> omega
              all_goals
                have e2 := HRR.out (k - 1) (by omega)
                obtain ⟨p2, hx2⟩ : ∃ x, Hid ((L.getD (k - 1) default).f = x) := ⟨_, Lib.hid rfl⟩
                rw [hx2.out] at hh e2
                have j0 : decide ((0 : Int) < (k : Int)) = true := by simp; omega
                have j0n : decide (0 < k) = true := by simp; omega
                have j1 : IntKind.i64.wrap ((k : Int) - 1) = (k : Int) - 1 := IntWalk.i64_in _ (by omega)
                have j2 : (0 : Int) ≤ (k : Int) - 1 := by omega
                have j3 : ((k : Int) - 1).toNat = k - 1 := by omega
                have j4 : (k : Int) - 1 < (n : Int) := by omega
              · have hr : Hid (E = 9) := Lib.hid (stop 9 (by unfold wndF; rw [hx.out, hw0.out, hc]; simp) (by omega))
                have j6 : decide (p ≤ p2) = true := by simpa using hh
                clear hz hw0 hc stop HRR
                go_wp2_with (first | (go_at_call 39; ((with_reducible refine (isMin_is _ _ _ H1).mono ?_)); rintro e w' ⟨rfl, rfl⟩) | (go_at_call 23; ((with_reducible refine (bWth_is _ _ _ _ _ H2).mono ?_)); rintro e w' ⟨rfl, rfl⟩) | (go_at_call 23; ((with_reducible refine (bWth_is _ _ _ _ _ H3).mono ?_)); rintro e w' ⟨rfl, rfl⟩))
                go_big_quiet (fail)
                go_wp2
                go_ret
                exact ⟨ret_int hr.out.symm, (by (repeat (first | (with_reducible refine Below.drew ?_) | (with_reducible refine below_drewN ?_ _) | (with_reducible refine Below.alloc ?_ (by first | omega | (simp; done) | (simp; omega) | (simp at *; omega)) _) | (with_reducible refine Below.setCell ?_ (by first | omega | (simp; done) | (simp; omega) | (simp at *; omega)) _) | (with_reducible exact Below.refl _ _) | (with_reducible assumption) | (with_reducible refine Below.trans ?_ (Below.mono (by assumption) (by first | omega | (simp; done) | (simp; omega) | (simp at *; omega)))))))⟩
              · have hW : Hid (fstD L (k + 1) = 0) := Lib.hid (by rw [fstD, if_pos hz.out]; unfold wndF; rw [hx.out, hw0.out, hc]; simp)
                have j6 : decide (p ≤ p2) = false := by simpa using hh
                clear hz hw0 hc stop HRR
                go_wp2_with (first | (go_at_call 39; ((with_reducible refine (isMin_is _ _ _ H1).mono ?_)); rintro e w' ⟨rfl, rfl⟩) | (go_at_call 23; ((with_reducible refine (bWth_is _ _ _ _ _ H2).mono ?_)); rintro e w' ⟨rfl, rfl⟩) | (go_at_call 23; ((with_reducible refine (bWth_is _ _ _ _ _ H3).mono ?_)); rintro e w' ⟨rfl, rfl⟩))
                go_big_quiet (fail)
                go_wp2
                go_roundw
                case rel => exact ⟨k + 1, by omega, by go_num, hW, (by (repeat (first | (with_reducible refine Below.drew ?_) | (with_reducible refine below_drewN ?_ _) | (with_reducible refine Below.alloc ?_ (by first | omega | (simp; done) | (simp; omega) | (simp at *; omega)) _) | (with_reducible refine Below.setCell ?_ (by first | omega | (simp; done) | (simp; omega) | (simp at *; omega)) _) | (with_reducible exact Below.refl _ _) | (with_reducible assumption) | (with_reducible refine Below.trans ?_ (Below.mono (by assumption) (by first | omega | (simp; done) | (simp; omega) | (simp at *; omega)))))))⟩
                case measure => (simp [intOf]) <;> omega
      · have hkk : k = n := by omega
        have hr : Hid (E = 0) := Lib.hid (by rw [← HE.out, ← hkk]; exact hz.out)
        clear hz hkk
        go_wp2
        go_ret
        exact ⟨ret_int hr.out.symm, (by (repeat (first | (with_reducible refine Below.drew ?_) | (with_reducible refine below_drewN ?_ _) | (with_reducible refine Below.alloc ?_ (by first | omega | (simp; done) | (simp; omega) | (simp at *; omega)) _) | (with_reducible refine Below.setCell ?_ (by first | omega | (simp; done) | (simp; omega) | (simp at *; omega)) _) | (with_reducible exact Below.refl _ _) | (with_reducible assumption) | (with_reducible refine Below.trans ?_ (Below.mono (by assumption) (by first | omega | (simp; done) | (simp; omega) | (simp at *; omega)))))))⟩
  · rw [if_neg h60] at he
    have HE := Lib.hid he
    have i0 : (60 : Int) < (n : Int) := by omega
    clear he
    go_enter Tryz.func36, Tryz.ntmps36
    go_wp2
    go_ret
    exact ⟨ret_int HE.out, (by (repeat (first | (with_reducible refine Below.drew ?_) | (with_reducible refine below_drewN ?_ _) | (with_reducible refine Below.alloc ?_ (by first | omega | (simp; done) | (simp; omega) | (simp at *; omega)) _) | (with_reducible refine Below.setCell ?_ (by first | omega | (simp; done) | (simp; omega) | (simp at *; omega)) _) | (with_reducible exact Below.refl _ _) | (with_reducible assumption) | (with_reducible refine Below.trans ?_ (Below.mono (by assumption) (by first | omega | (simp; done) | (simp; omega) | (simp at *; omega)))))))⟩
structure Sh1 (M : List Int) (w X : World) : Prop where
  sh : ∀ k, k < 8 → X.cell? ⟨w.heap.size, k, none⟩ = some (.int .i64 (M.getD k 0))
  be : Below w.heap.size w X
  lt : w.heap.size < X.heap.size
theorem Sh1.below {M : List Int} {w X X' : World} (h : Sh1 M w X) (hb : Below X.heap.size X X') : Sh1 M w X' := by
  have z := hb.size
  have l0 := h.lt
  exact ⟨fun k hk => (hb.cell (p := ⟨w.heap.size, k, none⟩) l0).trans (h.sh k hk), h.be.trans (hb.mono h.be.size), by omega⟩
theorem fcE_t {x : Int} (h : inB x 0 200 = true) : fcE x = 0 := rngE_t h
theorem fcE_f {x : Int} (h : inB x 0 200 = false) : fcE x = 2 := rngE_f h
theorem getD_get {M : List Int} {k : Nat} (hk : k < M.length) : M.getD k 0 = M[k] := by rw [List.getD_eq_getElem?_getD, List.getElem?_eq_getElem hk]; rfl
set_option maxRecDepth 100000 in
set_option maxHeartbeats 2000000 in
theorem refShel_is (M : List Int) (s0 s1 s2 s3 s4 s5 s6 s7 : Int) (E : Int) (w : World) (hM : Hid (M = [s0, s1, s2, s3, s4, s5, s6, s7])) (hE : Hid (shE M = E)) :
    Calls Tryz.prog 38 #[.agg #[.int .i64 s0, .int .i64 s1, .int .i64 s2, .int .i64 s3, .int .i64 s4, .int .i64 s5, .int .i64 s6, .int .i64 s7]] w fun e w' => e = .returned (.int .i64 E) ∧ Below w.heap.size w w' := by
  have h8 : Hid (M.length = 8) := Lib.hid (by rw [hM.out]; rfl)
  go_enter Tryz.func38, Tryz.ntmps38
  go_upto_region 1 with (fail)
  refine wp_world (Sh1 M w) ⟨(by rw [hM.out]; refine eight ?_ ?_ ?_ ?_ ?_ ?_ ?_ ?_ <;> simp [go_sem, World.cell?_alloc_past]), (by (repeat (first | (with_reducible refine Below.drew ?_) | (with_reducible refine below_drewN ?_ _) | (with_reducible refine Below.alloc ?_ (by first | omega | (simp; done) | (simp; omega) | (simp at *; omega)) _) | (with_reducible refine Below.setCell ?_ (by first | omega | (simp; done) | (simp; omega) | (simp at *; omega)) _) | (with_reducible exact Below.refl _ _) | (with_reducible assumption) | (with_reducible refine Below.trans ?_ (Below.mono (by assumption) (by first | omega | (simp; done) | (simp; omega) | (simp at *; omega))))))), by simp⟩ (fun u hu => ?_)
  have HU := Lib.hid hu
  clear hu
  go_wp2
  go_loopw [3] (fun i wr => ∃ k : Nat, k ≤ 8 ∧ i = .int .i64 k ∧ Hid (∀ j, j < k → inB (M.getD j 0) 0 200 = true) ∧ Below u.heap.size u wr) (fun i _ => 8 - (intOf i).toNat)
  case atStart => exact ⟨0, by omega, rfl, Lib.hid fun j hj => by omega, (by (repeat (first | (with_reducible refine Below.drew ?_) | (with_reducible refine below_drewN ?_ _) | (with_reducible refine Below.alloc ?_ (by first | omega | (simp; done) | (simp; omega) | (simp at *; omega)) _) | (with_reducible refine Below.setCell ?_ (by first | omega | (simp; done) | (simp; omega) | (simp at *; omega)) _) | (with_reducible exact Below.refl _ _) | (with_reducible assumption) | (with_reducible refine Below.trans ?_ (Below.mono (by assumption) (by first | omega | (simp; done) | (simp; omega) | (simp at *; omega)))))))⟩
  case round =>
    obtain ⟨k, hk, rfl, hz, hB⟩ := hrel
    by_cases hkn : k < 8
    · have kn : (k : Int) < 8 := by omega
      have hS := HU.out.below hB
      have c0 := hS.sh k hkn
      have hBw := hS.be
      obtain ⟨v, hv⟩ : ∃ v, Hid (M.getD k 0 = v) := ⟨_, Lib.hid rfl⟩
      rw [hv.out] at c0
      clear hS
      cases e1 : inB v 0 200 with
      | false =>
        have hr : Hid (E = 2) := Lib.hid (by
          have hkl : k < M.length := by have := h8.out; omega
          have h1 : fcE M[k] = 2 := by rw [← getD_get hkl, hv.out]; exact fcE_f e1
          have h2 := fstE_at hkl (fun j hj => by
            have hjl : j < M.length := by omega
            rw [← getD_get hjl]; exact fcE_t (hz.out j hj)) (by rw [h1]; decide)
          rw [h1] at h2
          rw [← hE.out]
          exact h2)
        have H1 := Lib.hid e1
        clear hz e1
        go_wp2_with ((go_at_call 23; ((with_reducible refine (bWth_is _ _ _ _ _ H1).mono ?_)); rintro e w' ⟨rfl, rfl⟩))
        go_ret
        exact ⟨ret_int hr.out.symm, hBw⟩
      | true =>
        have hz2 : Hid (∀ j, j < k + 1 → inB (M.getD j 0) 0 200 = true) := Lib.hid fun j hj => by
          by_cases e : j = k
          · subst e; rw [hv.out]; exact e1
          · exact hz.out j (by omega)
        have H1 := Lib.hid e1
        clear hz e1
        go_wp2_with ((go_at_call 23; ((with_reducible refine (bWth_is _ _ _ _ _ H1).mono ?_)); rintro e w' ⟨rfl, rfl⟩))
        go_roundw
        case rel => exact ⟨k + 1, by omega, by go_num, hz2, (by (repeat (first | (with_reducible refine Below.drew ?_) | (with_reducible refine below_drewN ?_ _) | (with_reducible refine Below.alloc ?_ (by first | omega | (simp; done) | (simp; omega) | (simp at *; omega)) _) | (with_reducible refine Below.setCell ?_ (by first | omega | (simp; done) | (simp; omega) | (simp at *; omega)) _) | (with_reducible exact Below.refl _ _) | (with_reducible assumption) | (with_reducible refine Below.trans ?_ (Below.mono (by assumption) (by first | omega | (simp; done) | (simp; omega) | (simp at *; omega)))))))⟩
        case measure => (simp [intOf]) <;> omega
    · have hk8 : k = 8 := by omega
      have hr : Hid (E = 0) := Lib.hid (by
        rw [← hE.out]
        exact fstE_z fun j hj => by rw [← getD_get hj]; exact fcE_t (hz.out j (by have := h8.out; omega)))
      have hBw := (HU.out.below hB).be
      clear hz
      subst hk8
      go_wp2
      go_ret
      exact ⟨ret_int hr.out.symm, hBw⟩
structure RwS (x : Wi) (w X : World) : Prop where
  z0 : X.cell? ⟨w.heap.size, 0, none⟩ = some (.int .i64 0)
  z1 : X.cell? ⟨w.heap.size, 1, none⟩ = some (.int .i64 0)
  z2 : X.cell? ⟨w.heap.size, 2, none⟩ = some (.int .i64 0)
  x0 : X.cell? ⟨w.heap.size + 1, 0, none⟩ = some (.int .i64 x.f)
  x1 : X.cell? ⟨w.heap.size + 1, 1, none⟩ = some (.int .i64 x.s)
  x2 : X.cell? ⟨w.heap.size + 1, 2, none⟩ = some (.int .i64 x.o)
  fz : ∀ j, X.frozen? ⟨w.heap.size, j, none⟩ = false
  fx : ∀ j, X.frozen? ⟨w.heap.size + 1, j, none⟩ = false
  be : Below w.heap.size w X
  lt : w.heap.size + 1 < X.heap.size
theorem begU_pos {L : List Wi} {m : Int} (h : (L.getD 0 default).f ≤ m) : ∀ n, 0 < n → begU L m n ≠ 0
  | 0, h0 => by omega
  | k + 1, _ => by
    rw [begU]
    split
    · omega
    · by_cases hk : k = 0
      · subst hk; contradiction
      · exact begU_pos h k (by omega)
theorem begU_none {L : List Wi} {m : Int} {n : Nat} (hs : ∀ k, k + 1 < n → (L.getD k default).f < (L.getD (k + 1) default).f) (h : m < (L.getD 0 default).f) : begU L m n = 0 := by
  rcases Nat.eq_zero_or_pos (begU L m n) with h0 | h0
  · exact h0
  · have := begU_lo hs (Nat.le_refl n) (i := 0) h0; omega
set_option maxRecDepth 100000 in
set_option maxHeartbeats 2000000 in
theorem refWat_is (L : List Wi) (A : Option Addr) (n cap : Nat) (m : Int) (x : Wi) (p : Bool) (w : World) (hn : Hid (n = L.length)) (n0 : 0 < n) (n1 : n ≤ 1000000) (HL : Hid (SlRows wiV 3 w A L)) (hs : Hid (∀ k, k + 1 < L.length → (L.getD k default).f < (L.getD (k + 1) default).f)) (hx : Hid (atW L m n = x)) (hp : Hid (decide (begU L m n ≠ 0) = p)) :
    Calls Tryz.prog 40 #[.slice A n cap, .int .i64 m] w fun e w' => e = .returned (.tuple #[.agg #[.int .i64 x.f, .int .i64 x.s, .int .i64 x.o], .bool p]) ∧ Below w.heap.size w w' := by
  have hl0 : 0 < L.length := by have := hn.out; omega
  have n2 : (0 : Int) < (n : Int) := by omega
  have HR : Hid (∀ w' : World, Below w.heap.size w w' → SlRows wiV 3 w' A L) := Lib.hid fun w' hB => HL.out.below hB
  obtain ⟨xf, xs, xo⟩ := x
  dsimp only
  rcases HL.out with h0 | ⟨bl, off, rfl, hlt, hR⟩
  · rw [h0] at hl0; simp at hl0
  have HC : Hid (∀ k, k < n → ∀ X : World, Below w.heap.size w X → X.cell? ⟨bl, off + k * 3, none⟩ = some (.int .i64 (L.getD k default).f) ∧ X.cell? ⟨bl, off + k * 3 + 1, none⟩ = some (.int .i64 (L.getD k default).s) ∧ X.cell? ⟨bl, off + k * 3 + 2, none⟩ = some (.int .i64 (L.getD k default).o)) := Lib.hid fun k hk X hX => by
    obtain ⟨d0, d1, d2⟩ := wi_at hR (show k < L.length by have := hn.out; omega)
    exact ⟨(hX.cell (p := ⟨bl, off + k * 3, none⟩) hlt).trans d0, (hX.cell (p := ⟨bl, off + k * 3 + 1, none⟩) hlt).trans d1, (hX.cell (p := ⟨bl, off + k * 3 + 2, none⟩) hlt).trans d2⟩
  have o1 : bl ≠ w.heap.size := by omega
  have o2 : w.heap.size ≠ bl := by omega
  have o3 : bl < w.heap.size + 1 := by omega
  obtain ⟨d0, d1, d2⟩ := HC.out 0 n0 w (Below.refl _ _)
  obtain ⟨⟨f0, g0, h0⟩, hx0⟩ : ∃ y, Hid (L.getD 0 default = y) := ⟨_, Lib.hid rfl⟩
  rw [hx0.out] at d0 d1 d2
  dsimp only at d0 d1 d2
  rw [Nat.zero_mul, Nat.add_zero] at d0 d1 d2
  clear hR HL
  by_cases hf : m < f0
  · have hz : begU L m n = 0 := begU_none (by rw [hn.out]; exact hs.out) (by rw [hx0.out]; exact hf)
    have hpf : Hid (p = false) := Lib.hid (by rw [← hp.out, hz]; rfl)
    have hx9 : Hid ((⟨0, 0, 0⟩ : Wi) = ⟨xf, xs, xo⟩) := Lib.hid (by rw [← hx.out]; unfold atW; rw [if_pos hz])
    clear hz hp hx
    go_enter Tryz.func40, Tryz.ntmps40
    go_wp2
    refine bodyPost_ret (v := .tuple #[.agg #[.int .i64 xf, .int .i64 xs, .int .i64 xo], .bool p]) (by
      have e1 := hx9.out
      injection e1 with e1 e2 e3
      have e4 := hpf.out
      subst e1 e2 e3 e4
      simp [results, Tryz.results40, go_sem, World.cell?_alloc_past, *]) rfl ⟨rfl, ?_⟩
    (repeat (first | (with_reducible refine Below.drew ?_) | (with_reducible refine below_drewN ?_ _) | (with_reducible refine Below.alloc ?_ (by first | omega | (simp; done) | (simp; omega) | (simp at *; omega)) _) | (with_reducible refine Below.setCell ?_ (by first | omega | (simp; done) | (simp; omega) | (simp at *; omega)) _) | (with_reducible exact Below.refl _ _) | (with_reducible assumption) | (with_reducible refine Below.trans ?_ (Below.mono (by assumption) (by first | omega | (simp; done) | (simp; omega) | (simp at *; omega))))))
  · have hz : begU L m n ≠ 0 := begU_pos (by rw [hx0.out]; show f0 ≤ m; omega) n n0
    have hpt : Hid (p = true) := Lib.hid (by rw [← hp.out]; exact decide_eq_true hz)
    have hxn : Hid (L.getD (begU L m n - 1) default = ⟨xf, xs, xo⟩) := Lib.hid (by rw [← hx.out]; unfold atW; rw [if_neg hz])
    have hb1 : Hid (begU L m 1 = 1) := Lib.hid (by rw [begU, if_pos (by rw [hx0.out]; show f0 ≤ m; omega)])
    have hle : f0 ≤ m := by omega
    clear hz hp hx hs
    go_enter Tryz.func40, Tryz.ntmps40
    go_upto_region 4 with (fail)
    refine wp_world (RwS ⟨f0, g0, h0⟩ w) ⟨by simp [go_sem, World.cell?_alloc_past], by simp [go_sem, World.cell?_alloc_past], by simp [go_sem, World.cell?_alloc_past], by simp [go_sem, World.cell?_alloc_past], by simp [go_sem, World.cell?_alloc_past], by simp [go_sem, World.cell?_alloc_past], (by intro j; simp [go_sem]), (by intro j; simp [go_sem]), (by (repeat (first | (with_reducible refine Below.drew ?_) | (with_reducible refine below_drewN ?_ _) | (with_reducible refine Below.alloc ?_ (by first | omega | (simp; done) | (simp; omega) | (simp at *; omega)) _) | (with_reducible refine Below.setCell ?_ (by first | omega | (simp; done) | (simp; omega) | (simp at *; omega)) _) | (with_reducible exact Below.refl _ _) | (with_reducible assumption) | (with_reducible refine Below.trans ?_ (Below.mono (by assumption) (by first | omega | (simp; done) | (simp; omega) | (simp at *; omega))))))), by simp⟩ (fun u hu => ?_)
    clear d0 d1 d2
    go_wp2
    go_loopw [7] (fun i wr => ∃ k : Nat, 1 ≤ k ∧ k ≤ n ∧ i = .int .i64 k ∧ RwS (L.getD (begU L m k - 1) default) w wr) (fun i _ => n - (intOf i).toNat)
    case atStart => exact ⟨1, by omega, by omega, rfl, by rw [hb1.out, hx0.out]; exact hu⟩
    case round =>
      obtain ⟨k, k1, hk, rfl, hS⟩ := hrel
      by_cases hkn : k < n
      · have kn : (k : Int) < (n : Int) := by omega
        obtain ⟨d0, d1, d2⟩ := HC.out k hkn wr hS.be
        obtain ⟨⟨p0, p1, p2⟩, hxk⟩ : ∃ y, Hid (L.getD k default = y) := ⟨_, Lib.hid rfl⟩
        rw [hxk.out] at d0 d1 d2
        dsimp only at d0 d1 d2
        by_cases hpm : p0 ≤ m
        · have hb2 : Hid (L.getD (begU L m (k + 1) - 1) default = ⟨p0, p1, p2⟩) := Lib.hid (by rw [begU, if_pos (by rw [hxk.out]; exact hpm)]; exact hxk.out)
          obtain ⟨z0, z1, z2, x0, x1, x2, fz, fx, hB, hl⟩ := hS
          have n3 : w.heap.size < wr.heap.size := by omega
          have n4 : bl ≠ w.heap.size + 1 := by omega
          have n5 : w.heap.size + 1 ≠ bl := by omega
          go_upto_region 6 with (fail)
          refine wp_world (RwS ⟨p0, p1, p2⟩ w) ⟨by simp [go_sem, *], by simp [go_sem, *], by simp [go_sem, *], by simp [go_sem, *], by simp [go_sem, *], by simp [go_sem, *], (by intro j; simp [go_sem, *]), (by intro j; simp [go_sem, *]), (by (repeat (first | (with_reducible refine Below.drew ?_) | (with_reducible refine below_drewN ?_ _) | (with_reducible refine Below.alloc ?_ (by first | omega | (simp; done) | (simp; omega) | (simp at *; omega)) _) | (with_reducible refine Below.setCell ?_ (by first | omega | (simp; done) | (simp; omega) | (simp at *; omega)) _) | (with_reducible exact Below.refl _ _) | (with_reducible assumption) | (with_reducible refine Below.trans ?_ (Below.mono (by assumption) (by first | omega | (simp; done) | (simp; omega) | (simp at *; omega))))))), by simp; omega⟩ (fun y hy => ?_)
          clear d0 d1 d2 z0 z1 z2 x0 x1 x2 fz fx hB hl n3
          go_wp2
          go_roundw
          case rel => exact ⟨k + 1, by omega, by omega, by go_num, by rw [hb2.out]; exact hy⟩
          case measure => (simp [intOf]) <;> omega
        · have hb2 : Hid (L.getD (begU L m (k + 1) - 1) default = L.getD (begU L m k - 1) default) := Lib.hid (by rw [begU, if_neg (by rw [hxk.out]; exact hpm)])
          go_wp2
          go_roundw
          case rel => exact ⟨k + 1, by omega, by omega, by go_num, by rw [hb2.out]; exact hS⟩
          case measure => (simp [intOf]) <;> omega
      · have hkk : k = n := by omega
        rw [hkk, hxn.out] at hS
        obtain ⟨z0, z1, z2, x0, x1, x2, fz, fx, hB, hl⟩ := hS
        dsimp only at x0 x1 x2
        have n3 : w.heap.size < wr.heap.size := by omega
        clear hkk
        go_wp2
        refine bodyPost_ret (v := .tuple #[.agg #[.int .i64 xf, .int .i64 xs, .int .i64 xo], .bool p]) (by
          have e4 := hpt.out
          subst e4
          simp [results, Tryz.results40, go_sem, World.cell?_alloc_past, *]) rfl ⟨rfl, ?_⟩
        (repeat (first | (with_reducible refine Below.drew ?_) | (with_reducible refine below_drewN ?_ _) | (with_reducible refine Below.alloc ?_ (by first | omega | (simp; done) | (simp; omega) | (simp at *; omega)) _) | (with_reducible refine Below.setCell ?_ (by first | omega | (simp; done) | (simp; omega) | (simp at *; omega)) _) | (with_reducible exact Below.refl _ _) | (with_reducible assumption) | (with_reducible refine Below.trans ?_ (Below.mono (by assumption) (by first | omega | (simp; done) | (simp; omega) | (simp at *; omega))))))
end Go.Proofs.YtojaompfffpofaaGreat
