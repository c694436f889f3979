import Derived.Test.YtgidmmmdpmophaaRSFEData
import Derived.Test.YtgidmmmdpmophaaRSFFName
import Derived.Deep.DrawnRows
import Derived.BigQuiet
import Derived.Deep.CutRange
import Derived.Deep.CutBlock
import Derived.OrdersHeld
import Derived.Deep.RegionHeld
import Derived.Outline
namespace Go.Proofs.Ytgidmmmdpmophaa
open Go.ChangeShapes Go.WideShapes Go.ChangeAt Go.RowKit
set_option linter.unusedVariables false
set_option linter.unusedSimpArgs false
attribute [local go_sem ↓] Go.wp_at_zero Go.wp_at_succ
/-- Rules but for their table. -/
structure Ru where
  a : Int
  b : Int
  nc : Int
  dn : Int
  br : Int
  em : Int
  pa : Int
  sc : Int
def oxK (T : List Ox) (k : Nat) : Int := if (inB (T.getD k default).f 0 4000 && inB (T.getD k default).r 0 100000) = false then 2 else if 0 < k ∧ (T.getD k default).f ≤ (T.getD (k - 1) default).f then 9 else 0
def oxE (T : List Ox) : Int := if 20 < T.length then 8 else fstI (oxK T) (List.range T.length)
def ruL (T : List Ox) (r : Ru) : List Int := [oxE T, limE r.a r.b, rngE r.nc 0 30000, rngE r.dn 1 100000, rngE r.br 1 100000, rngE r.em 1 100000, rngE r.pa 0 3600, rngE r.sc 1 3000]
def ruE (T : List Ox) (r : Ru) : Int := firE (ruL T r)
theorem getD_at {α : Type} [Inhabited α] {L : List α} {k : Nat} (h : k < L.length) : L.getD k default = L[k] := by
  rw [List.getD_eq_getElem?_getD, List.getElem?_eq_getElem h]; rfl
theorem blk_ints {u : World} {B b : Nat} {l : List Int} (h : BlkF u B b (l.map fun x => .int .i64 x)) : ∀ k, k < l.length → u.cell? ⟨b, 0 + k, none⟩ = some (.int .i64 (l.getD k 0)) := by
  intro k hk
  rw [Nat.zero_add]
  refine h.at' k _ ?_
  rw [List.getElem?_map, List.getElem?_eq_getElem hk, List.getD_eq_getElem?_getD, List.getElem?_eq_getElem hk]
  rfl
theorem wp_worldE {P : Program} {c : Code} {Q : Exit → Act → World → Prop} {a : Act} {w : World} (R : World → Prop) (h : R w) (k : ∀ X, R X → Code.wp P c Q a X) : Code.wp P c Q a w := k w h
theorem cWithin_is (n a b : Int) (x : Bool) (w : World) (h : Hid (inB n a b = x)) : Calls Try.prog 64 #[.int .i64 n, .int .i64 a, .int .i64 b] w fun e w' => e = .returned (.bool x) ∧ w = w' := by
  rw [← h.out]; exact cWithin_any n a b w
set_option maxRecDepth 100000 in
set_option maxHeartbeats 2000000 in
theorem checkTable_any (T : List Ox) (A : Option Addr) (n cap : Nat) (E : Int) (w : World) (hn : Hid (n = T.length)) (hl : n ≤ 9223372036854775807) (hT : Hid (SlRows oxV 2 w A T)) (hE : Hid (oxE T = E)) :
    Calls Try.prog 51 #[.slice A n cap] w fun e w' => e = .returned (.int .i64 E) ∧ Below w.heap.size w w' := by
  have he := hE.out
  unfold oxE at he
  rw [← hn.out] at he
  clear hE
  by_cases h20 : 20 < n
  · rw [if_pos h20] at he
    have HE := Lib.hid he
    have f8 : (20 : Int) < (n : Int) := by omega
    clear he
    go_enter Try.func51, Try.ntmps51
    go_wp2
    go_ret
    exact ⟨ret_int HE.out, Below.refl _ _⟩
  rw [if_neg h20] at he
  have HE := Lib.hid he
  have f8 : ¬ (20 : Int) < (n : Int) := by omega
  clear he
  go_enter Try.func51, Try.ntmps51
  go_wp2
  go_loopw [10] (fun i wr => ∃ k : Nat, k ≤ n ∧ i = .int .i64 k ∧ Hid (∀ j, j < k → oxK T j = 0) ∧ Below w.heap.size w wr) (fun i _ => n - (intOf i).toNat)
  case atStart => exact ⟨0, by omega, rfl, Lib.hid fun j hj => absurd hj (by omega), Below.refl _ _⟩
  case round =>
    obtain ⟨k, hk, rfl, hz, hB⟩ := hrel
    have zb := hB.size
    by_cases hkn : k < n
    · have kn : (k : Int) < (n : Int) := by omega
      have hkT : k < T.length := by have := hn.out; omega
      obtain ⟨b, o, rfl, hlt, hR⟩ := (hT.out.below hB).at' hkT
      obtain ⟨c0, c1⟩ := ox_at hR hkT
      obtain ⟨fr, hfr⟩ : ∃ z, Hid (T[k].f = z) := ⟨_, Lib.hid rfl⟩
      obtain ⟨rt, hrt⟩ : ∃ z, Hid (T[k].r = z) := ⟨_, Lib.hid rfl⟩
      rw [hfr.out] at c0
      rw [hrt.out] at c1
      have hK : Hid (oxK T k = if (inB fr 0 4000 && inB rt 0 100000) = false then 2 else if 0 < k ∧ fr ≤ (T.getD (k - 1) default).f then 9 else 0) := Lib.hid (by unfold oxK; rw [getD_at hkT, hfr.out, hrt.out])
      have hstop : Hid (¬ oxK T k = 0 → E = oxK T k) := Lib.hid fun h => by
        have hkr : k < (List.range T.length).length := by simpa using hkT
        have := @fstI_stop _ (oxK T) (List.range T.length) k hkr (fun j hj => by simpa using hz.out j hj) (by simpa using h)
        rw [← HE.out, hn.out, this]; simp
      have hnext : Hid (oxK T k = 0 → ∀ j, j < k + 1 → oxK T j = 0) := Lib.hid fun h j hj => by
        by_cases e : j = k
        · rw [e]; exact h
        · exact hz.out j (by omega)
      clear hz
      by_cases h1 : inB fr 0 4000 = true
      · have H1 := Lib.hid h1
        by_cases h2 : inB rt 0 100000 = true
        · have H2 := Lib.hid h2
          by_cases hk0 : 0 < k
          · have hp : k - 1 < T.length := by omega
            have p0 := (ox_at hR hp).1
            obtain ⟨pv, hpv⟩ : ∃ z, Hid (T[k - 1].f = z) := ⟨_, Lib.hid rfl⟩
            rw [hpv.out] at p0
            have HP : Hid (oxK T k = if fr ≤ pv then 9 else 0) := Lib.hid (by
              rw [hK.out, h1, h2, if_neg (by simp), getD_at hp, hpv.out]
              by_cases e : fr ≤ pv
              · rw [if_pos ⟨hk0, e⟩, if_pos e]
              · rw [if_neg (fun h => e h.2), if_neg e])
            obtain ⟨q, hq⟩ : ∃ q : Nat, Hid (k = q + 1) := ⟨k - 1, Lib.hid (by omega)⟩
            have hkq : k - 1 = q := by have := hq.out; omega
            rw [hkq] at p0
            have hw : IntKind.i64.wrap ((k : Int) - 1) = (q : Int) := by rw [IntWalk.i64_in _ (by omega)]; have := hq.out; omega
            have hw2 : (k : Int) - 1 = (q : Int) := by have := hq.out; omega
            have g1 : decide (0 < k) = true := by simpa using hk0
            have g1' : decide ((0 : Int) < (k : Int)) = true := by simpa using hk0
            have q0 : ¬ (q : Int) < 0 := by omega
            have qn : (q : Int) < (n : Int) := by have := hq.out; omega
            clear hR hkq h1 h2 hpv hK hk0 hp
            by_cases e : fr ≤ pv
            · have g2 : decide (fr ≤ pv) = true := by simpa using e
              have hr : Hid (E = 9) := Lib.hid (by have h9 : oxK T k = 9 := by rw [HP.out, if_pos e]
                                                   rw [hstop.out (by rw [h9]; decide), h9])
              clear HP hstop hnext e
              go_wp2_with (go_at_call 64; first | ((with_reducible refine (cWithin_is _ _ _ _ _ H1).mono ?_); rintro e w' ⟨rfl, rfl⟩) | ((with_reducible refine (cWithin_is _ _ _ _ _ H2).mono ?_); rintro e w' ⟨rfl, rfl⟩))
              go_big_quiet (fail)
              go_wp2
              go_ret
              exact ⟨ret_int hr.out.symm, (by (repeat (first | (with_reducible refine Below.drew ?_) | (with_reducible refine below_drewN ?_ _) | (with_reducible refine Below.alloc ?_ (by first | omega | (simp; done) | (simp; omega) | (simp at *; omega)) _) | (with_reducible refine Below.setCell ?_ (by first | omega | (simp; done) | (simp; omega) | (simp at *; omega)) _) | (with_reducible exact Below.refl _ _) | (with_reducible assumption) | (with_reducible refine Below.trans ?_ (Below.mono (by assumption) (by first | omega | (simp; done) | (simp; omega) | (simp at *; omega)))))))⟩
            · have g2 : decide (fr ≤ pv) = false := by simpa using e
              have hx : Hid (∀ j, j < k + 1 → oxK T j = 0) := Lib.hid (hnext.out (by rw [HP.out, if_neg e]))
              clear HP hstop hnext e
              go_wp2_with (go_at_call 64; first | ((with_reducible refine (cWithin_is _ _ _ _ _ H1).mono ?_); rintro e w' ⟨rfl, rfl⟩) | ((with_reducible refine (cWithin_is _ _ _ _ _ H2).mono ?_); rintro e w' ⟨rfl, rfl⟩))
              go_big_quiet (fail)
              go_wp2
              go_roundw
              case rel => exact ⟨k + 1, by omega, by go_num, hx, (by (repeat (first | (with_reducible refine Below.drew ?_) | (with_reducible refine below_drewN ?_ _) | (with_reducible refine Below.alloc ?_ (by first | omega | (simp; done) | (simp; omega) | (simp at *; omega)) _) | (with_reducible refine Below.setCell ?_ (by first | omega | (simp; done) | (simp; omega) | (simp at *; omega)) _) | (with_reducible exact Below.refl _ _) | (with_reducible assumption) | (with_reducible refine Below.trans ?_ (Below.mono (by assumption) (by first | omega | (simp; done) | (simp; omega) | (simp at *; omega)))))))⟩
              case measure => simp [intOf]; omega
          · have g1 : decide (0 < k) = false := by simpa using hk0
            have g1' : decide ((0 : Int) < (k : Int)) = false := by simpa using hk0
            have hx : Hid (∀ j, j < k + 1 → oxK T j = 0) := Lib.hid (hnext.out (by rw [hK.out, h1, h2, if_neg (by simp), if_neg (fun h => hk0 h.1)]))
            clear hR h1 h2 hK hk0 hstop hnext
            go_wp2_with (go_at_call 64; first | ((with_reducible refine (cWithin_is _ _ _ _ _ H1).mono ?_); rintro e w' ⟨rfl, rfl⟩) | ((with_reducible refine (cWithin_is _ _ _ _ _ H2).mono ?_); rintro e w' ⟨rfl, rfl⟩))
            go_big_quiet (fail)
            go_wp2
            go_roundw
            case rel => exact ⟨k + 1, by omega, by go_num, hx, (by (repeat (first | (with_reducible refine Below.drew ?_) | (with_reducible refine below_drewN ?_ _) | (with_reducible refine Below.alloc ?_ (by first | omega | (simp; done) | (simp; omega) | (simp at *; omega)) _) | (with_reducible refine Below.setCell ?_ (by first | omega | (simp; done) | (simp; omega) | (simp at *; omega)) _) | (with_reducible exact Below.refl _ _) | (with_reducible assumption) | (with_reducible refine Below.trans ?_ (Below.mono (by assumption) (by first | omega | (simp; done) | (simp; omega) | (simp at *; omega)))))))⟩
            case measure => simp [intOf]; omega
        · have h2' : inB rt 0 100000 = false := by simpa using h2
          have H2 := Lib.hid h2'
          have hr : Hid (E = 2) := Lib.hid (by have h9 : oxK T k = 2 := by rw [hK.out, h1, h2', if_pos (by simp)]
                                               rw [hstop.out (by rw [h9]; decide), h9])
          clear hR h1 h2 h2' hK hstop hnext
          go_wp2_with (go_at_call 64; first | ((with_reducible refine (cWithin_is _ _ _ _ _ H1).mono ?_); rintro e w' ⟨rfl, rfl⟩) | ((with_reducible refine (cWithin_is _ _ _ _ _ H2).mono ?_); rintro e w' ⟨rfl, rfl⟩))
          go_ret
          exact ⟨ret_int hr.out.symm, (by (repeat (first | (with_reducible refine Below.drew ?_) | (with_reducible refine below_drewN ?_ _) | (with_reducible refine Below.alloc ?_ (by first | omega | (simp; done) | (simp; omega) | (simp at *; omega)) _) | (with_reducible refine Below.setCell ?_ (by first | omega | (simp; done) | (simp; omega) | (simp at *; omega)) _) | (with_reducible exact Below.refl _ _) | (with_reducible assumption) | (with_reducible refine Below.trans ?_ (Below.mono (by assumption) (by first | omega | (simp; done) | (simp; omega) | (simp at *; omega)))))))⟩
      · have h1' : inB fr 0 4000 = false := by simpa using h1
        have H1 := Lib.hid h1'
        have hr : Hid (E = 2) := Lib.hid (by have h9 : oxK T k = 2 := by rw [hK.out, h1', if_pos (by simp)]
                                             rw [hstop.out (by rw [h9]; decide), h9])
        clear hR h1 h1' hK hstop hnext
        go_wp2_with ((go_at_call 64; ((with_reducible refine (cWithin_is _ _ _ _ _ H1).mono ?_)); rintro e w' ⟨rfl, rfl⟩))
        go_ret
        exact ⟨ret_int hr.out.symm, (by (repeat (first | (with_reducible refine Below.drew ?_) | (with_reducible refine below_drewN ?_ _) | (with_reducible refine Below.alloc ?_ (by first | omega | (simp; done) | (simp; omega) | (simp at *; omega)) _) | (with_reducible refine Below.setCell ?_ (by first | omega | (simp; done) | (simp; omega) | (simp at *; omega)) _) | (with_reducible exact Below.refl _ _) | (with_reducible assumption) | (with_reducible refine Below.trans ?_ (Below.mono (by assumption) (by first | omega | (simp; done) | (simp; omega) | (simp at *; omega)))))))⟩
    · have kn : ¬ (k : Int) < (n : Int) := by omega
      have hr : Hid (E = 0) := Lib.hid (by rw [← HE.out]; exact fstI_all fun j hj => by simpa using hz.out j (by have : j < n := by simpa using hj
                                                                                                                 omega))
      go_wp2
      go_ret
      exact ⟨ret_int hr.out.symm, hB⟩
theorem cRange_is (n a b E : Int) (w : World) (h : Hid (rngE n a b = E)) : Calls Try.prog 42 #[.int .i64 n, .int .i64 a, .int .i64 b] w fun e w' => e = .returned (.int .i64 E) ∧ w = w' := by
  rw [← h.out]; exact cRange_any n a b w
theorem checkBreath_is (n E : Int) (w : World) (h : Hid (rngE n 1 100000 = E)) : Calls Try.prog 37 #[.int .i64 n] w fun e w' => e = .returned (.int .i64 E) ∧ w = w' := by
  go_enter Try.func37, Try.ntmps37
  go_wp2_with ((go_at_call 42; ((with_reducible refine (cRange_is _ _ _ _ _ h).mono ?_)); rintro e w' ⟨rfl, rfl⟩))
  go_ret
  exact ⟨rfl, rfl⟩
theorem CLb (a b E : Int) (w : World) (h : Hid (limE a b = E)) : Calls Try.prog 52 #[.agg #[.int .i64 a, .int .i64 b]] w fun e w' => e = .returned (.int .i64 E) ∧ Below w.heap.size w w' := by
  rw [← h.out]; exact (CheckLimits_any a b w).mono fun e w' h => ⟨h.1, by rw [← h.2]; (repeat (first | (with_reducible refine Below.drew ?_) | (with_reducible refine below_drewN ?_ _) | (with_reducible refine Below.alloc ?_ (by first | omega | (simp; done) | (simp; omega) | (simp at *; omega)) _) | (with_reducible refine Below.setCell ?_ (by first | omega | (simp; done) | (simp; omega) | (simp at *; omega)) _) | (with_reducible exact Below.refl _ _) | (with_reducible assumption) | (with_reducible refine Below.trans ?_ (Below.mono (by assumption) (by first | omega | (simp; done) | (simp; omega) | (simp at *; omega))))))⟩
theorem cRangeB (n a b E : Int) (w : World) (h : Hid (rngE n a b = E)) : Calls Try.prog 42 #[.int .i64 n, .int .i64 a, .int .i64 b] w fun e w' => e = .returned (.int .i64 E) ∧ Below w.heap.size w w' := (cRange_is n a b E w h).mono fun e w' h => ⟨h.1, by rw [← h.2]; exact Below.refl _ _⟩
theorem cBreathB (n E : Int) (w : World) (h : Hid (rngE n 1 100000 = E)) : Calls Try.prog 37 #[.int .i64 n] w fun e w' => e = .returned (.int .i64 E) ∧ Below w.heap.size w w' := (checkBreath_is n E w h).mono fun e w' h => ⟨h.1, by rw [← h.2]; exact Below.refl _ _⟩
theorem cFirstB (l : List Int) (b off m : Nat) (w : World) (hm : l.length = m) (hl : l.length ≤ 1000) (h0 : 0 < l.length) (hc : ∀ k, k < l.length → w.cell? ⟨b, off + k, none⟩ = some (.int .i64 (l.getD k 0))) : Calls Try.prog 27 #[.slice (some ⟨b, off, none⟩) m m] w fun e w' => e = .returned (.int .i64 (firE l)) ∧ Below w.heap.size w w' := by
  subst hm
  exact (cFirst_any l b off w hl h0 hc).mono fun e w' h => ⟨h.1, by rw [← h.2]; exact Below.refl _ _⟩
set_option maxRecDepth 100000 in
set_option maxHeartbeats 4000000 in
theorem CheckRules_any (T : List Ox) (r : Ru) (A : Option Addr) (n cap : Nat) (E : Int) (w : World) (hn : Hid (n = T.length)) (hl : n ≤ 9223372036854775807) (hT : Hid (SlRows oxV 2 w A T)) (hE : Hid (ruE T r = E)) :
    Calls Try.prog 28 #[.agg #[.slice A n cap, .int .i64 r.a, .int .i64 r.b, .int .i64 r.nc, .int .i64 r.dn, .int .i64 r.br, .int .i64 r.em, .int .i64 r.pa, .int .i64 r.sc]] w fun e w' => e = .returned (.int .i64 E) ∧ Below w.heap.size w w' := by
  obtain ⟨e0, h0⟩ : ∃ e, Hid (oxE T = e) := ⟨_, Lib.hid rfl⟩
  obtain ⟨e1, h1⟩ : ∃ e, Hid (limE r.a r.b = e) := ⟨_, Lib.hid rfl⟩
  obtain ⟨e2, h2⟩ : ∃ e, Hid (rngE r.nc 0 30000 = e) := ⟨_, Lib.hid rfl⟩
  obtain ⟨e3, h3⟩ : ∃ e, Hid (rngE r.dn 1 100000 = e) := ⟨_, Lib.hid rfl⟩
  obtain ⟨e4, h4⟩ : ∃ e, Hid (rngE r.br 1 100000 = e) := ⟨_, Lib.hid rfl⟩
  obtain ⟨e5, h5⟩ : ∃ e, Hid (rngE r.em 1 100000 = e) := ⟨_, Lib.hid rfl⟩
  obtain ⟨e6, h6⟩ : ∃ e, Hid (rngE r.pa 0 3600 = e) := ⟨_, Lib.hid rfl⟩
  obtain ⟨e7, h7⟩ : ∃ e, Hid (rngE r.sc 1 3000 = e) := ⟨_, Lib.hid rfl⟩
  have hr : Hid (firE [e0, e1, e2, e3, e4, e5, e6, e7] = E) := Lib.hid (by rw [← hE.out]; unfold ruE ruL; rw [h0.out, h1.out, h2.out, h3.out, h4.out, h5.out, h6.out, h7.out])
  clear hE
  go_enter Try.func28, Try.ntmps28
  go_upto_region 1 with (fail)
  refine wp_worldE (fun u => (u.cell? ⟨w.heap.size, 0, none⟩ = some (.slice A n cap) ∧ u.cell? ⟨w.heap.size, 1, none⟩ = some (.int .i64 r.a) ∧ u.cell? ⟨w.heap.size, 2, none⟩ = some (.int .i64 r.b) ∧ u.cell? ⟨w.heap.size, 3, none⟩ = some (.int .i64 r.nc) ∧ u.cell? ⟨w.heap.size, 4, none⟩ = some (.int .i64 r.dn) ∧ u.cell? ⟨w.heap.size, 5, none⟩ = some (.int .i64 r.br) ∧ u.cell? ⟨w.heap.size, 6, none⟩ = some (.int .i64 r.em) ∧ u.cell? ⟨w.heap.size, 7, none⟩ = some (.int .i64 r.pa) ∧ u.cell? ⟨w.heap.size, 8, none⟩ = some (.int .i64 r.sc)) ∧ w.heap.size < u.heap.size ∧ Below w.heap.size w u) ⟨⟨by simp [go_sem], by simp [go_sem], by simp [go_sem], by simp [go_sem], by simp [go_sem], by simp [go_sem], by simp [go_sem], by simp [go_sem], by simp [go_sem]⟩, by simp, (by (repeat (first | (with_reducible refine Below.drew ?_) | (with_reducible refine below_drewN ?_ _) | (with_reducible refine Below.alloc ?_ (by first | omega | (simp; done) | (simp; omega) | (simp at *; omega)) _) | (with_reducible refine Below.setCell ?_ (by first | omega | (simp; done) | (simp; omega) | (simp at *; omega)) _) | (with_reducible exact Below.refl _ _) | (with_reducible assumption) | (with_reducible refine Below.trans ?_ (Below.mono (by assumption) (by first | omega | (simp; done) | (simp; omega) | (simp at *; omega)))))))⟩ (fun u hu => ?_)
  obtain ⟨hc, hlt, hB0⟩ := hu
  have HS : Hid (∀ y, Below u.heap.size u y → y.cell? ⟨w.heap.size, 0, none⟩ = some (.slice A n cap) ∧ y.cell? ⟨w.heap.size, 1, none⟩ = some (.int .i64 r.a) ∧ y.cell? ⟨w.heap.size, 2, none⟩ = some (.int .i64 r.b) ∧ y.cell? ⟨w.heap.size, 3, none⟩ = some (.int .i64 r.nc) ∧ y.cell? ⟨w.heap.size, 4, none⟩ = some (.int .i64 r.dn) ∧ y.cell? ⟨w.heap.size, 5, none⟩ = some (.int .i64 r.br) ∧ y.cell? ⟨w.heap.size, 6, none⟩ = some (.int .i64 r.em) ∧ y.cell? ⟨w.heap.size, 7, none⟩ = some (.int .i64 r.pa) ∧ y.cell? ⟨w.heap.size, 8, none⟩ = some (.int .i64 r.sc)) := Lib.hid fun y hy => ⟨(hy.cell (p := ⟨w.heap.size, 0, none⟩) hlt).trans hc.1, (hy.cell (p := ⟨w.heap.size, 1, none⟩) hlt).trans hc.2.1, (hy.cell (p := ⟨w.heap.size, 2, none⟩) hlt).trans hc.2.2.1, (hy.cell (p := ⟨w.heap.size, 3, none⟩) hlt).trans hc.2.2.2.1, (hy.cell (p := ⟨w.heap.size, 4, none⟩) hlt).trans hc.2.2.2.2.1, (hy.cell (p := ⟨w.heap.size, 5, none⟩) hlt).trans hc.2.2.2.2.2.1, (hy.cell (p := ⟨w.heap.size, 6, none⟩) hlt).trans hc.2.2.2.2.2.2.1, (hy.cell (p := ⟨w.heap.size, 7, none⟩) hlt).trans hc.2.2.2.2.2.2.2.1, (hy.cell (p := ⟨w.heap.size, 8, none⟩) hlt).trans hc.2.2.2.2.2.2.2.2⟩
  clear hc
  refine wp_region_held_drew (S := (fun w' => w'.cell? ⟨w.heap.size, 0, none⟩ = some (.slice A n cap) ∧ w'.cell? ⟨w.heap.size, 1, none⟩ = some (.int .i64 r.a) ∧ w'.cell? ⟨w.heap.size, 2, none⟩ = some (.int .i64 r.b) ∧ w'.cell? ⟨w.heap.size, 3, none⟩ = some (.int .i64 r.nc) ∧ w'.cell? ⟨w.heap.size, 4, none⟩ = some (.int .i64 r.dn) ∧ w'.cell? ⟨w.heap.size, 5, none⟩ = some (.int .i64 r.br) ∧ w'.cell? ⟨w.heap.size, 6, none⟩ = some (.int .i64 r.em) ∧ w'.cell? ⟨w.heap.size, 7, none⟩ = some (.int .i64 r.pa) ∧ w'.cell? ⟨w.heap.size, 8, none⟩ = some (.int .i64 r.sc))) (by kernel_rfl) (HS.out _ (Below.refl _ _).drew) (fun hHeld => ?_)
  have hT0 : Below u.heap.size u u.drew := (Below.refl _ _).drew
  generalize hdr : u.drew = v0 at *
  clear hdr
  refine tkH 0 ⟨some 3, _, _, _, _, _⟩ ?_ rfl ?_ (by assumption) ?_
  rotate_left
  · (intro w hSw; (try dsimp only at hSw); go_simp; all_goals with_reducible rfl)
  try simp only [Act.put, sA, sB, sC]
  refine tkH 1 ⟨some 4, _, _, _, _, _⟩ ?_ rfl ?_ (by assumption) ?_
  rotate_left
  · (intro w hSw; (try dsimp only at hSw); go_simp; all_goals with_reducible rfl)
  try simp only [Act.put, sA, sB, sC]
  refine tkH 3 ⟨some 6, _, _, _, _, _⟩ ?_ rfl ?_ (by assumption) ?_
  rotate_left
  · (intro w hSw; (try dsimp only at hSw); go_simp; all_goals with_reducible rfl)
  try simp only [Act.put, sA, sB, sC]
  refine tkH 4 ⟨some 7, _, _, _, _, _⟩ ?_ rfl ?_ (by assumption) ?_
  rotate_left
  · (intro w hSw; (try dsimp only at hSw); go_simp; all_goals with_reducible rfl)
  try simp only [Act.put, sA, sB, sC]
  refine tkH 6 ⟨some 9, _, _, _, _, _⟩ ?_ rfl ?_ (by assumption) ?_
  rotate_left
  · (intro w hSw; (try dsimp only at hSw); go_simp; all_goals with_reducible rfl)
  try simp only [Act.put, sA, sB, sC]
  refine tkH 7 ⟨some 10, _, _, _, _, _⟩ ?_ rfl ?_ (by assumption) ?_
  rotate_left
  · (intro w hSw; (try dsimp only at hSw); go_simp; all_goals with_reducible rfl)
  try simp only [Act.put, sA, sB, sC]
  refine tkH 9 ⟨some 12, _, _, _, _, _⟩ ?_ rfl ?_ (by assumption) ?_
  rotate_left
  · (intro w hSw; (try dsimp only at hSw); go_simp; all_goals with_reducible rfl)
  try simp only [Act.put, sA, sB, sC]
  refine tkH 10 ⟨some 13, _, _, _, _, _⟩ ?_ rfl ?_ (by assumption) ?_
  rotate_left
  · (intro w hSw; (try dsimp only at hSw); go_simp; all_goals with_reducible rfl)
  try simp only [Act.put, sA, sB, sC]
  refine tkH 12 ⟨some 15, _, _, _, _, _⟩ ?_ rfl ?_ (by assumption) ?_
  rotate_left
  · (intro w hSw; (try dsimp only at hSw); go_simp; all_goals with_reducible rfl)
  try simp only [Act.put, sA, sB, sC]
  refine tkH 13 ⟨some 16, _, _, _, _, _⟩ ?_ rfl ?_ (by assumption) ?_
  rotate_left
  · (intro w hSw; (try dsimp only at hSw); go_simp; all_goals with_reducible rfl)
  try simp only [Act.put, sA, sB, sC]
  refine tkH 15 ⟨some 18, _, _, _, _, _⟩ ?_ rfl ?_ (by assumption) ?_
  rotate_left
  · (intro w hSw; (try dsimp only at hSw); go_simp; all_goals with_reducible rfl)
  try simp only [Act.put, sA, sB, sC]
  refine tkH 16 ⟨some 19, _, _, _, _, _⟩ ?_ rfl ?_ (by assumption) ?_
  rotate_left
  · (intro w hSw; (try dsimp only at hSw); go_simp; all_goals with_reducible rfl)
  try simp only [Act.put, sA, sB, sC]
  refine tkH 18 ⟨some 21, _, _, _, _, _⟩ ?_ rfl ?_ (by assumption) ?_
  rotate_left
  · (intro w hSw; (try dsimp only at hSw); go_simp; all_goals with_reducible rfl)
  try simp only [Act.put, sA, sB, sC]
  refine tkH 19 ⟨some 22, _, _, _, _, _⟩ ?_ rfl ?_ (by assumption) ?_
  rotate_left
  · (intro w hSw; (try dsimp only at hSw); go_simp; all_goals with_reducible rfl)
  try simp only [Act.put, sA, sB, sC]
  refine tkH 21 ⟨some 24, _, _, _, _, _⟩ ?_ rfl ?_ (by assumption) ?_
  rotate_left
  · (intro w hSw; (try dsimp only at hSw); go_simp; all_goals with_reducible rfl)
  try simp only [Act.put, sA, sB, sC]
  refine tkH 22 ⟨some 25, _, _, _, _, _⟩ ?_ rfl ?_ (by assumption) ?_
  rotate_left
  · (intro w hSw; (try dsimp only at hSw); go_simp; all_goals with_reducible rfl)
  try simp only [Act.put, sA, sB, sC]
  refine wpAnyH_ready (rs := [2]) (by kernel_rfl) (by simp) ?_
  refine AllReadyH.cons rfl (fun K hK => ?_) (AllReadyH.nil)
  go_simp
  refine (checkTable_any T A n cap e0 _ hn hl (Lib.hid (hT.out.below (hB0.trans (hT0.mono hB0.size)))) h0).mono ?_
  rintro e v1 ⟨rfl, hbv0⟩
  have hT1 : Below u.heap.size u v1 := hT0.trans (hbv0.mono hT0.size)
  clear hbv0
  go_wp2_with fail
  refine hK.out _ _ (HS.out _ hT1) (fun hHeld => ?_)
  clear hK K
  try simp only [Act.put, sA, sB, sC]
  refine wpAnyH_ready (rs := [5]) (by kernel_rfl) (by simp) ?_
  refine AllReadyH.cons rfl (fun K hK => ?_) (AllReadyH.nil)
  go_simp
  refine (CLb r.a r.b e1 _ h1).mono ?_
  rintro e v2 ⟨rfl, hbv1⟩
  have hT2 : Below u.heap.size u v2 := hT1.trans (hbv1.mono hT1.size)
  clear hbv1
  go_wp2_with fail
  refine hK.out _ _ (HS.out _ hT2) (fun hHeld => ?_)
  clear hK K
  try simp only [Act.put, sA, sB, sC]
  refine wpAnyH_ready (rs := [8]) (by kernel_rfl) (by simp) ?_
  refine AllReadyH.cons rfl (fun K hK => ?_) (AllReadyH.nil)
  go_simp
  refine (cRangeB r.nc 0 30000 e2 _ h2).mono ?_
  rintro e v3 ⟨rfl, hbv2⟩
  have hT3 : Below u.heap.size u v3 := hT2.trans (hbv2.mono hT2.size)
  clear hbv2
  go_wp2_with fail
  refine hK.out _ _ (HS.out _ hT3) (fun hHeld => ?_)
  clear hK K
  try simp only [Act.put, sA, sB, sC]
  refine wpAnyH_ready (rs := [11]) (by kernel_rfl) (by simp) ?_
  refine AllReadyH.cons rfl (fun K hK => ?_) (AllReadyH.nil)
  go_simp
  refine (cRangeB r.dn 1 100000 e3 _ h3).mono ?_
  rintro e v4 ⟨rfl, hbv3⟩
  have hT4 : Below u.heap.size u v4 := hT3.trans (hbv3.mono hT3.size)
  clear hbv3
  go_wp2_with fail
  refine hK.out _ _ (HS.out _ hT4) (fun hHeld => ?_)
  clear hK K
  try simp only [Act.put, sA, sB, sC]
  refine wpAnyH_ready (rs := [14]) (by kernel_rfl) (by simp) ?_
  refine AllReadyH.cons rfl (fun K hK => ?_) (AllReadyH.nil)
  go_simp
  refine (cBreathB r.br e4 _ h4).mono ?_
  rintro e v5 ⟨rfl, hbv4⟩
  have hT5 : Below u.heap.size u v5 := hT4.trans (hbv4.mono hT4.size)
  clear hbv4
  go_wp2_with fail
  refine hK.out _ _ (HS.out _ hT5) (fun hHeld => ?_)
  clear hK K
  try simp only [Act.put, sA, sB, sC]
  refine wpAnyH_ready (rs := [17]) (by kernel_rfl) (by simp) ?_
  refine AllReadyH.cons rfl (fun K hK => ?_) (AllReadyH.nil)
  go_simp
  refine (cBreathB r.em e5 _ h5).mono ?_
  rintro e v6 ⟨rfl, hbv5⟩
  have hT6 : Below u.heap.size u v6 := hT5.trans (hbv5.mono hT5.size)
  clear hbv5
  go_wp2_with fail
  refine hK.out _ _ (HS.out _ hT6) (fun hHeld => ?_)
  clear hK K
  try simp only [Act.put, sA, sB, sC]
  refine wpAnyH_ready (rs := [20]) (by kernel_rfl) (by simp) ?_
  refine AllReadyH.cons rfl (fun K hK => ?_) (AllReadyH.nil)
  go_simp
  refine (cRangeB r.pa 0 3600 e6 _ h6).mono ?_
  rintro e v7 ⟨rfl, hbv6⟩
  have hT7 : Below u.heap.size u v7 := hT6.trans (hbv6.mono hT6.size)
  clear hbv6
  go_wp2_with fail
  refine hK.out _ _ (HS.out _ hT7) (fun hHeld => ?_)
  clear hK K
  try simp only [Act.put, sA, sB, sC]
  refine wpAnyH_ready (rs := [23]) (by kernel_rfl) (by simp) ?_
  refine AllReadyH.cons rfl (fun K hK => ?_) (AllReadyH.nil)
  go_simp
  refine (cRangeB r.sc 1 3000 e7 _ h7).mono ?_
  rintro e v8 ⟨rfl, hbv7⟩
  have hT8 : Below u.heap.size u v8 := hT7.trans (hbv7.mono hT7.size)
  clear hbv7
  go_wp2_with fail
  refine hK.out _ _ (HS.out _ hT8) (fun hHeld => ?_)
  clear hK K
  try simp only [Act.put, sA, sB, sC]
  refine wpAnyH_ready (rs := [24]) (by kernel_rfl) (by simp) ?_
  refine AllReadyH.cons rfl (fun K hK => ?_) (AllReadyH.nil)
  go_simp
  go_wp2_with fail
  refine hK.out _ _ (HS.out _ (hT8.alloc hT8.size _)) (fun hHeld => ?_)
  clear hK K
  try simp only [Act.put, sA, sB, sC]
  have HNb8 := Lib.hid (BlkF.made (B := u.heap.size) v8 [.int .i64 e0, .int .i64 e1, .int .i64 e2, .int .i64 e3, .int .i64 e4, .int .i64 e5, .int .i64 e6, .int .i64 e7] 38 hT8.size)
  have hbv8 : Below v8.heap.size v8 (v8.alloc (.cells #[.int .i64 e0, .int .i64 e1, .int .i64 e2, .int .i64 e3, .int .i64 e4, .int .i64 e5, .int .i64 e6, .int .i64 e7] 38)) := (Below.refl _ _).alloc (Nat.le_refl _) _
  have hnb8 : u.heap.size ≤ v8.heap.size := hT8.size
  have exb8 : ∃ x, v8.heap.size = x := ⟨_, rfl⟩
  generalize hq8 : v8.alloc (.cells #[.int .i64 e0, .int .i64 e1, .int .i64 e2, .int .i64 e3, .int .i64 e4, .int .i64 e5, .int .i64 e6, .int .i64 e7] 38) = v9 at *
  have hT9 : Below u.heap.size u v9 := hT8.trans (hbv8.mono hT8.size)
  obtain ⟨b8, eb8⟩ := exb8
  rw [eb8] at HNb8 hnb8 ⊢
  clear hbv8 hq8
  refine wpAnyH_ready (rs := [25]) (by kernel_rfl) (by simp) ?_
  refine AllReadyH.cons rfl (fun K hK => ?_) (AllReadyH.nil)
  go_simp
  refine (cFirstB [e0, e1, e2, e3, e4, e5, e6, e7] b8 0 8 _ rfl (by simp) (by simp) (blk_ints (l := [e0, e1, e2, e3, e4, e5, e6, e7]) HNb8.out)).mono ?_
  rintro e v10 ⟨rfl, hbv9⟩
  have hT10 : Below u.heap.size u v10 := hT9.trans (hbv9.mono hT9.size)
  replace HNb8 := Lib.hid (HNb8.out.below hbv9)
  clear hbv9
  go_wp2_with fail
  refine hK.out _ _ (HS.out _ hT10) (fun hHeld => ?_)
  clear hK K
  try simp only [Act.put, sA, sB, sC]
  refine tkH 26 ⟨some 2, _, _, _, _, _⟩ ?_ rfl ?_ (by assumption) ?_
  rotate_left
  · (intro w hSw; (try dsimp only at hSw); go_simp; all_goals with_reducible rfl)
  try simp only [Act.put, sA, sB, sC]
  refine wpAnyH_done (by kernel_rfl) ?_ _
  have hW : Below u.heap.size u v10 := hT10
  have hW2 := Lib.hid (hB0.trans (hW.mono hB0.size))
  clear hHeld
  go_wp2
  go_ret
  exact ⟨ret_int hr.out, hW2.out⟩
end Go.Proofs.Ytgidmmmdpmophaa
