import Derived.Test.YtgidmmmdpmophaaRSFEOx
import Derived.Outline
namespace Go.Proofs.Ytgidmmmdpmophaa
open Go.ChangeShapes Go.WideShapes Go.ChangeAt Go.RowKit
set_option linter.unusedVariables false
set_option linter.unusedSimpArgs false
attribute [local go_sem ↓] Go.wp_at_zero Go.wp_at_succ
theorem mul_bd {a b x y : Int} (a0 : 0 ≤ a) (a1 : a ≤ x) (b0 : 0 ≤ b) (b1 : b ≤ y) : 0 ≤ a * b ∧ a * b ≤ x * y := ⟨Int.mul_nonneg a0 b0, Int.mul_le_mul a1 b1 b0 (by omega)⟩
/-- Right rules. -/
structure RuOk (T : List Ox) (r : Ru) : Prop where
  ox : OxOk T
  lm : limE r.a r.b = 0
  nc : 0 ≤ r.nc ∧ r.nc ≤ 30000
  dn : 1 ≤ r.dn ∧ r.dn ≤ 100000
  br : 1 ≤ r.br ∧ r.br ≤ 100000
  em : 1 ≤ r.em ∧ r.em ≤ 100000
  pa : 0 ≤ r.pa ∧ r.pa ≤ 3600
  sc : 1 ≤ r.sc ∧ r.sc ≤ 3000
theorem firE_all {l : List Int} (h : firE l = 0) : ∀ x ∈ l, x = 0 := by
  induction l with
  | nil => intro x hx; simp at hx
  | cons y l ih =>
    unfold firE at h
    by_cases e : y = 0
    · intro x hx
      rcases List.mem_cons.1 hx with rfl | hx
      · exact e
      · exact ih (by rw [if_pos e] at h; exact h) x hx
    · rw [if_neg e] at h; exact absurd h e
theorem rngE_bd {n a b : Int} (h : rngE n a b = 0) : a ≤ n ∧ n ≤ b := by
  unfold rngE at h
  by_cases e : inB n a b = true
  · exact inB_iff.1 e
  · rw [if_neg e] at h; exact absurd h (by decide)
theorem ru_ok {T : List Ox} {r : Ru} (h : ruE T r = 0) : RuOk T r := by
  have H := firE_all h
  unfold ruL at H
  exact ⟨ox_ok (H _ (by simp)), H _ (by simp), rngE_bd (H (rngE r.nc 0 30000) (by simp)), rngE_bd (H (rngE r.dn 1 100000) (by simp)), rngE_bd (H (rngE r.br 1 100000) (by simp)), rngE_bd (H (rngE r.em 1 100000) (by simp)), rngE_bd (H (rngE r.pa 0 3600) (by simp)), rngE_bd (H (rngE r.sc 1 3000) (by simp))⟩
def brV (x : Pl) (b : Int) : Int := upE (b * (x.su + x.bd + (x.su + x.d)) * x.s) 120000
def escV (r : Ru) (su dep : Int) : Int := upE (r.em * ((su + dep) * r.pa * r.sc + (2 * su + dep) * 30 * dep)) (60000 * r.sc)
def binV (x : Pl) (b q : Int) : Int := upE (b * (2 * (x.su + x.bd) * x.s + (x.su + x.d - (x.su + x.bd)) * q) * q) (120000 * x.s)
def depV (x : Pl) (q : Int) : Int := upE (x.bd * (x.s - q) + x.d * q) x.s
def nedV (x : Pl) (r : Ru) (q : Int) : Int := binV x r.br q + escV r x.su (depV x q)
theorem br_bd {x : Pl} {b : Int} (h : PlOk x) (b0 : 1 ≤ b) (b1 : b ≤ 100000) : 0 ≤ b * (x.su + x.bd + (x.su + x.d)) ∧ b * (x.su + x.bd + (x.su + x.d)) ≤ 6220000000 ∧ 0 ≤ b * (x.su + x.bd + (x.su + x.d)) * x.s ∧ b * (x.su + x.bd + (x.su + x.d)) * x.s ≤ 6220000000000000 := by
  obtain ⟨s, d, bd, bs, su, ga⟩ := h
  have h1 := mul_bd (show 0 ≤ b by omega) b1 (show 0 ≤ x.su + x.bd + (x.su + x.d) by omega) (show _ ≤ 62200 by omega)
  have h2 := mul_bd h1.1 (show _ ≤ 6220000000 by omega) (show 0 ≤ x.s by omega) s.2
  exact ⟨h1.1, by omega, h2.1, by omega⟩
theorem brV_bd {x : Pl} {b : Int} (h : PlOk x) (b0 : 1 ≤ b) (b1 : b ≤ 100000) : 0 ≤ brV x b ∧ brV x b ≤ 6220000000000000 := by
  have h1 := br_bd h b0 b1
  have h2 := upE_bd (d := 120000) h1.2.2.1 (by decide)
  unfold brV
  omega
set_option maxRecDepth 100000 in
set_option maxHeartbeats 1000000 in
theorem breathed_is (x : Pl) (b q : Int) (w : World) (hok : Hid (PlOk x)) (b0 : 1 ≤ b) (b1 : b ≤ 100000) (hq : Hid (brV x b = q)) :
    Calls Try.prog 46 #[.agg #[.int .i64 x.s, .int .i64 x.d, .int .i64 x.g, .int .i64 x.nu, .int .i64 x.bs, .int .i64 x.bd, .int .i64 x.su, .int .i64 x.o, .int .i64 x.h], .int .i64 b] w fun e w' => e = .returned (.int .i64 q) ∧ Below w.heap.size w w' := by
  have bb := br_bd hok.out b0 b1
  have a1 := hok.out.d
  have a2 := hok.out.bd
  have a3 := hok.out.su
  obtain ⟨p1, hp1⟩ : ∃ z, Hid (x.su + x.bd = z) := ⟨_, Lib.hid rfl⟩
  obtain ⟨p2, hp2⟩ : ∃ z, Hid (x.su + x.d = z) := ⟨_, Lib.hid rfl⟩
  have HP : ∀ X : World, Calls Try.prog 62 #[.agg #[.int .i64 x.s, .int .i64 x.d, .int .i64 x.g, .int .i64 x.nu, .int .i64 x.bs, .int .i64 x.bd, .int .i64 x.su, .int .i64 x.o, .int .i64 x.h]] X fun e w' => e = .returned (.tuple #[.int .i64 p1, .int .i64 p2]) ∧ Below X.heap.size X w' := fun X => by
    have := pressures_is x X hok
    rw [hp1.out, hp2.out] at this
    exact this
  have hq2 : Hid (upE (b * (p1 + p2) * x.s) 120000 = q) := Lib.hid (by rw [← hp1.out, ← hp2.out]; exact hq.out)
  rw [hp1.out, hp2.out] at bb
  have k1 : 0 ≤ p1 ∧ p1 ≤ 31100 := by have := hp1.out; omega
  have k2 : 0 ≤ p2 ∧ p2 ≤ 31100 := by have := hp2.out; omega
  have w1 : IntKind.i64.wrap (p1 + p2) = p1 + p2 := IntWalk.i64_in _ (by omega)
  have w2 : IntKind.i64.wrap (b * (p1 + p2)) = b * (p1 + p2) := IntWalk.i64_in _ (by omega)
  have w3 : IntKind.i64.wrap (b * (p1 + p2) * x.s) = b * (p1 + p2) * x.s := IntWalk.i64_in _ (by omega)
  have A9 := BlkF.made (B := w.heap.size) w [.int .i64 x.s, .int .i64 x.d, .int .i64 x.g, .int .i64 x.nu, .int .i64 x.bs, .int .i64 x.bd, .int .i64 x.su, .int .i64 x.o, .int .i64 x.h] 94 (Nat.le_refl _)
  go_enter Try.func46, Try.ntmps46
  go_wp2_with fail
  refine (HP _).mono ?_
  rintro e x1 ⟨rfl, hb1⟩
  replace A9 := A9.below hb1
  have hB1 := Lib.hid (show Below w.heap.size w x1 from (by (repeat (first | (with_reducible refine Below.drew ?_) | (with_reducible refine below_drewN ?_ _) | (with_reducible refine Below.alloc ?_ (by first | omega | (simp; done) | (simp; omega) | (simp at *; omega)) _) | (with_reducible refine Below.setCell ?_ (by first | omega | (simp; done) | (simp; omega) | (simp at *; omega)) _) | (with_reducible exact Below.refl _ _) | (with_reducible assumption) | (with_reducible refine Below.trans ?_ (Below.mono (by assumption) (by first | omega | (simp; done) | (simp; omega) | (simp at *; omega))))))))
  obtain ⟨c0, c1, c2, c3, c4, c5, c6, c7, c8⟩ := b9 A9
  clear hb1 A9
  go_wp2_with fail
  refine (dividedUp_is _ 120000 q _ bb.2.2.1 (by omega) (by decide) (by decide) hq2).mono ?_
  rintro e x2 ⟨rfl, rfl⟩
  go_wp2
  go_ret
  exact ⟨rfl, hB1.out⟩
theorem bin_bd {x : Pl} {b q : Int} (h : PlOk x) (b0 : 1 ≤ b) (b1 : b ≤ 100000) (q0 : 0 ≤ q) (q1 : q ≤ x.s) (s1 : x.s ≤ 20000) :
    0 ≤ 2 * (x.su + x.bd) * x.s + (x.su + x.d - (x.su + x.bd)) * q ∧ 2 * (x.su + x.bd) * x.s + (x.su + x.d - (x.su + x.bd)) * q ≤ 62200 * x.s ∧ 2 * (x.su + x.bd) * x.s ≤ 62200 * x.s ∧ -(31100 * x.s) ≤ (x.su + x.d - (x.su + x.bd)) * q ∧ (x.su + x.d - (x.su + x.bd)) * q ≤ 31100 * x.s ∧ 0 ≤ b * (2 * (x.su + x.bd) * x.s + (x.su + x.d - (x.su + x.bd)) * q) ∧ b * (2 * (x.su + x.bd) * x.s + (x.su + x.d - (x.su + x.bd)) * q) ≤ 100000 * (62200 * x.s) ∧ 0 ≤ b * (2 * (x.su + x.bd) * x.s + (x.su + x.d - (x.su + x.bd)) * q) * q ∧ b * (2 * (x.su + x.bd) * x.s + (x.su + x.d - (x.su + x.bd)) * q) * q ≤ 6220000000 * 20000 * 20000 := by
  obtain ⟨s, d, bd, bs, su, ga⟩ := h
  have e : (x.su + x.d - (x.su + x.bd)) * q = x.d * q - x.bd * q := by rw [← Int.sub_mul]; congr 1; omega
  have d1 := mul_bd d.1 d.2 q0 q1
  have d2 := mul_bd bd.1 bd.2 q0 q1
  have e2 : 2 * (x.su + x.bd) * x.s = 2 * (x.su * x.s) + 2 * (x.bd * x.s) := by rw [Int.mul_assoc, Int.add_mul]; omega
  have d3 := mul_bd (show 0 ≤ x.su by omega) su.2 (show 0 ≤ x.s by omega) (Int.le_refl x.s)
  have d4 := mul_bd bd.1 bd.2 (show 0 ≤ x.s by omega) (Int.le_refl x.s)
  have d5 : x.bd * q ≤ x.bd * x.s := Int.mul_le_mul_of_nonneg_left q1 bd.1
  have d6 := mul_bd d.1 d.2 q0 (Int.le_refl q)
  have d7 := mul_bd bd.1 bd.2 (show 0 ≤ 2 * x.s - q by omega) (Int.le_refl _)
  have d8 : x.bd * (2 * x.s - q) = 2 * (x.bd * x.s) - x.bd * q := by rw [Int.mul_sub, ← Int.mul_assoc, Int.mul_comm x.bd 2, Int.mul_assoc]
  have m1 : 2 * (x.su + x.bd) * x.s + (x.su + x.d - (x.su + x.bd)) * q ≤ 62200 * x.s := by omega
  have m0 : 0 ≤ 2 * (x.su + x.bd) * x.s + (x.su + x.d - (x.su + x.bd)) * q := by omega
  have m2 := mul_bd (show 0 ≤ b by omega) b1 m0 m1
  have m3 := mul_bd m2.1 m2.2 q0 q1
  have m4 : 100000 * (62200 * x.s) * x.s ≤ 6220000000 * 20000 * 20000 := by
    have h1 : x.s * x.s ≤ 20000 * 20000 := Int.mul_le_mul s1 s1 (by omega) (by decide)
    have h2 : 100000 * (62200 * x.s) * x.s = 6220000000 * (x.s * x.s) := by
      rw [← Int.mul_assoc, Int.mul_assoc]; rfl
    rw [h2]; omega
  exact ⟨m0, m1, by omega, by omega, by omega, m2.1, m2.2, m3.1, Int.le_trans m3.2 m4⟩
set_option maxRecDepth 100000 in
set_option maxHeartbeats 1000000 in
theorem breathedIn_is (x : Pl) (b q v : Int) (w : World) (hok : Hid (PlOk x)) (b0 : 1 ≤ b) (b1 : b ≤ 100000) (q0 : 0 ≤ q) (q1 : q ≤ x.s) (s1 : x.s ≤ 20000) (hv : Hid (binV x b q = v)) :
    Calls Try.prog 40 #[.agg #[.int .i64 x.s, .int .i64 x.d, .int .i64 x.g, .int .i64 x.nu, .int .i64 x.bs, .int .i64 x.bd, .int .i64 x.su, .int .i64 x.o, .int .i64 x.h], .int .i64 b, .int .i64 q] w fun e w' => e = .returned (.int .i64 v) ∧ Below w.heap.size w w' := by
  have bb := bin_bd hok.out b0 b1 q0 q1 s1
  have a0 := hok.out.s
  have a1 := hok.out.d
  have a2 := hok.out.bd
  have a3 := hok.out.su
  obtain ⟨p1, hp1⟩ : ∃ z, Hid (x.su + x.bd = z) := ⟨_, Lib.hid rfl⟩
  obtain ⟨p2, hp2⟩ : ∃ z, Hid (x.su + x.d = z) := ⟨_, Lib.hid rfl⟩
  have HP : ∀ X : World, Calls Try.prog 62 #[.agg #[.int .i64 x.s, .int .i64 x.d, .int .i64 x.g, .int .i64 x.nu, .int .i64 x.bs, .int .i64 x.bd, .int .i64 x.su, .int .i64 x.o, .int .i64 x.h]] X fun e w' => e = .returned (.tuple #[.int .i64 p1, .int .i64 p2]) ∧ Below X.heap.size X w' := fun X => by
    have := pressures_is x X hok
    rw [hp1.out, hp2.out] at this
    exact this
  have hv2 : Hid (upE (b * (2 * p1 * x.s + (p2 - p1) * q) * q) (120000 * x.s) = v) := Lib.hid (by rw [← hp1.out, ← hp2.out]; exact hv.out)
  rw [hp1.out, hp2.out] at bb
  obtain ⟨m0, m1, m2, m3, m4, m5, m6, m7, m8⟩ := bb
  have k1 : 0 ≤ p1 ∧ p1 ≤ 31100 := by have := hp1.out; omega
  have k2 : 0 ≤ p2 ∧ p2 ≤ 31100 := by have := hp2.out; omega
  have n1 : 0 ≤ 2 * p1 * x.s := Int.mul_nonneg (by omega) (by omega)
  have w0 : IntKind.i64.wrap (2 * p1) = 2 * p1 := IntWalk.i64_in _ (by omega)
  have w1 : IntKind.i64.wrap (2 * p1 * x.s) = 2 * p1 * x.s := IntWalk.i64_in _ (by omega)
  have w2 : IntKind.i64.wrap (p2 - p1) = p2 - p1 := IntWalk.i64_in _ (by omega)
  have w3 : IntKind.i64.wrap ((p2 - p1) * q) = (p2 - p1) * q := IntWalk.i64_in _ (by omega)
  have w4 : IntKind.i64.wrap (2 * p1 * x.s + (p2 - p1) * q) = 2 * p1 * x.s + (p2 - p1) * q := IntWalk.i64_in _ (by omega)
  have w5 : IntKind.i64.wrap (b * (2 * p1 * x.s + (p2 - p1) * q)) = b * (2 * p1 * x.s + (p2 - p1) * q) := IntWalk.i64_in _ (by omega)
  have w6 : IntKind.i64.wrap (b * (2 * p1 * x.s + (p2 - p1) * q) * q) = b * (2 * p1 * x.s + (p2 - p1) * q) * q := IntWalk.i64_in _ (by omega)
  have w7 : IntKind.i64.wrap (120000 * x.s) = 120000 * x.s := IntWalk.i64_in _ (by omega)
  have A9 := BlkF.made (B := w.heap.size) w [.int .i64 x.s, .int .i64 x.d, .int .i64 x.g, .int .i64 x.nu, .int .i64 x.bs, .int .i64 x.bd, .int .i64 x.su, .int .i64 x.o, .int .i64 x.h] 94 (Nat.le_refl _)
  go_enter Try.func40, Try.ntmps40
  go_wp2_with fail
  refine (HP _).mono ?_
  rintro e x1 ⟨rfl, hb1⟩
  replace A9 := A9.below hb1
  have hB1 := Lib.hid (show Below w.heap.size w x1 from (by (repeat (first | (with_reducible refine Below.drew ?_) | (with_reducible refine below_drewN ?_ _) | (with_reducible refine Below.alloc ?_ (by first | omega | (simp; done) | (simp; omega) | (simp at *; omega)) _) | (with_reducible refine Below.setCell ?_ (by first | omega | (simp; done) | (simp; omega) | (simp at *; omega)) _) | (with_reducible exact Below.refl _ _) | (with_reducible assumption) | (with_reducible refine Below.trans ?_ (Below.mono (by assumption) (by first | omega | (simp; done) | (simp; omega) | (simp at *; omega))))))))
  obtain ⟨c0, c1, c2, c3, c4, c5, c6, c7, c8⟩ := b9 A9
  clear hb1 A9
  go_wp2_with fail
  refine (dividedUp_is _ (120000 * x.s) v _ m7 (by omega) (by omega) (by omega) hv2).mono ?_
  rintro e x2 ⟨rfl, rfl⟩
  go_wp2
  go_ret
  exact ⟨rfl, hB1.out⟩
theorem esc_bd {T : List Ox} {r : Ru} {su dep : Int} (h : RuOk T r) (s0 : 400 ≤ su) (s1 : su ≤ 1100) (d0 : 0 ≤ dep) (d1 : dep ≤ 30000) :
    0 ≤ (su + dep) * r.pa ∧ (su + dep) * r.pa ≤ 111960000 ∧ 0 ≤ (su + dep) * r.pa * r.sc ∧ (su + dep) * r.pa * r.sc ≤ 335880000000 ∧ 0 ≤ (2 * su + dep) * 30 * dep ∧ (2 * su + dep) * 30 * dep ≤ 28980000000 ∧ 0 ≤ r.em * ((su + dep) * r.pa * r.sc + (2 * su + dep) * 30 * dep) ∧ r.em * ((su + dep) * r.pa * r.sc + (2 * su + dep) * 30 * dep) ≤ 36486000000000000 := by
  have a1 := mul_bd (show 0 ≤ su + dep by omega) (show su + dep ≤ 31100 by omega) h.pa.1 h.pa.2
  have a2 := mul_bd a1.1 a1.2 (show 0 ≤ r.sc by have := h.sc; omega) h.sc.2
  have a3 := mul_bd (show 0 ≤ (2 * su + dep) * 30 by omega) (show (2 * su + dep) * 30 ≤ 966000 by omega) d0 d1
  have a4 := mul_bd (show 0 ≤ r.em by have := h.em; omega) h.em.2 (show 0 ≤ (su + dep) * r.pa * r.sc + (2 * su + dep) * 30 * dep by omega) (show _ ≤ 364860000000 by omega)
  exact ⟨a1.1, by omega, a2.1, by omega, a3.1, by omega, a4.1, by omega⟩
theorem escV_bd {T : List Ox} {r : Ru} {su dep : Int} (h : RuOk T r) (s0 : 400 ≤ su) (s1 : su ≤ 1100) (d0 : 0 ≤ dep) (d1 : dep ≤ 30000) : 0 ≤ escV r su dep ∧ escV r su dep ≤ 36486000000000000 := by
  have b := esc_bd h s0 s1 d0 d1
  have c := h.sc
  have u := upE_bd (d := 60000 * r.sc) b.2.2.2.2.2.2.1 (by omega)
  unfold escV
  omega
set_option maxRecDepth 100000 in
set_option maxHeartbeats 1000000 in
theorem escape_is (T : List Ox) (r : Ru) (A : Option Addr) (n cap : Nat) (su dep v : Int) (w : World) (hok : Hid (RuOk T r)) (s0 : 400 ≤ su) (s1 : su ≤ 1100) (d0 : 0 ≤ dep) (d1 : dep ≤ 30000) (hv : Hid (escV r su dep = v)) :
    Calls Try.prog 43 #[.agg #[.slice A n cap, .int .i64 r.a, .int .i64 r.b, .int .i64 r.nc, .int .i64 r.dn, .int .i64 r.br, .int .i64 r.em, .int .i64 r.pa, .int .i64 r.sc], .int .i64 su, .int .i64 dep] w fun e w' => e = .returned (.int .i64 v) ∧ Below w.heap.size w w' := by
  obtain ⟨m0, m1, m2, m3, m4, m5, m6, m7⟩ := esc_bd hok.out s0 s1 d0 d1
  have hsc := hok.out.sc
  obtain ⟨a, b, nc, dn, br, em, pa, sc⟩ := r
  dsimp only at *
  have w0 : IntKind.i64.wrap (su + dep) = su + dep := IntWalk.i64_in _ (by omega)
  have w1 : IntKind.i64.wrap ((su + dep) * pa) = (su + dep) * pa := IntWalk.i64_in _ (by omega)
  have w2 : IntKind.i64.wrap ((su + dep) * pa * sc) = (su + dep) * pa * sc := IntWalk.i64_in _ (by omega)
  have w3 : IntKind.i64.wrap (2 * su) = 2 * su := IntWalk.i64_in _ (by omega)
  have w4 : IntKind.i64.wrap (2 * su + dep) = 2 * su + dep := IntWalk.i64_in _ (by omega)
  have w5 : IntKind.i64.wrap ((2 * su + dep) * 30) = (2 * su + dep) * 30 := IntWalk.i64_in _ (by omega)
  have w6 : IntKind.i64.wrap ((2 * su + dep) * 30 * dep) = (2 * su + dep) * 30 * dep := IntWalk.i64_in _ (by omega)
  have w7 : IntKind.i64.wrap ((su + dep) * pa * sc + (2 * su + dep) * 30 * dep) = (su + dep) * pa * sc + (2 * su + dep) * 30 * dep := IntWalk.i64_in _ (by omega)
  have w8 : IntKind.i64.wrap (em * ((su + dep) * pa * sc + (2 * su + dep) * 30 * dep)) = em * ((su + dep) * pa * sc + (2 * su + dep) * 30 * dep) := IntWalk.i64_in _ (by omega)
  have w9 : IntKind.i64.wrap (60000 * sc) = 60000 * sc := IntWalk.i64_in _ (by omega)
  go_enter Try.func43, Try.ntmps43
  go_wp2_with fail
  refine (dividedUp_is _ (60000 * sc) v _ m6 (by omega) (by omega) (by omega) hv).mono ?_
  rintro e x2 ⟨rfl, rfl⟩
  go_wp2
  go_ret
  exact ⟨rfl, (by (repeat (first | (with_reducible refine Below.drew ?_) | (with_reducible refine below_drewN ?_ _) | (with_reducible refine Below.alloc ?_ (by first | omega | (simp; done) | (simp; omega) | (simp at *; omega)) _) | (with_reducible refine Below.setCell ?_ (by first | omega | (simp; done) | (simp; omega) | (simp at *; omega)) _) | (with_reducible exact Below.refl _ _) | (with_reducible assumption) | (with_reducible refine Below.trans ?_ (Below.mono (by assumption) (by first | omega | (simp; done) | (simp; omega) | (simp at *; omega)))))))⟩
theorem dep_bd {x : Pl} {q : Int} (h : PlOk x) (q0 : 0 ≤ q) (q1 : q ≤ x.s) : 0 ≤ x.bd * (x.s - q) ∧ x.bd * (x.s - q) ≤ 30000000000 ∧ 0 ≤ x.d * q ∧ x.d * q ≤ 30000000000 ∧ x.bd * (x.s - q) + x.d * q ≤ 30000 * x.s ∧ 0 ≤ depV x q ∧ depV x q ≤ 30000 := by
  obtain ⟨s, d, bd, bs, su, ga⟩ := h
  have a1 := mul_bd bd.1 bd.2 (show 0 ≤ x.s - q by omega) (Int.le_refl _)
  have a2 := mul_bd d.1 d.2 q0 (Int.le_refl _)
  have a3 : 30000 * (x.s - q) + 30000 * q = 30000 * x.s := by omega
  refine ⟨a1.1, by omega, a2.1, by omega, by omega, Int.ediv_nonneg (by omega) (by omega), ?_⟩
  unfold depV upE
  have : x.bd * (x.s - q) + x.d * q + x.s - 1 ≤ 30000 * x.s + (x.s - 1) := by omega
  refine Int.le_trans (Int.ediv_le_ediv (by omega) this) ?_
  rw [Int.add_comm, Int.add_mul_ediv_right _ _ (by omega), Int.ediv_eq_zero_of_lt (by omega) (by omega)]
  omega
theorem binV_bd {x : Pl} {b q : Int} (h : PlOk x) (b0 : 1 ≤ b) (b1 : b ≤ 100000) (q0 : 0 ≤ q) (q1 : q ≤ x.s) (s1 : x.s ≤ 20000) : 0 ≤ binV x b q ∧ binV x b q ≤ 6220000000 * 20000 * 20000 := by
  have bb := bin_bd h b0 b1 q0 q1 s1
  have a0 := h.s
  have u := upE_bd (d := 120000 * x.s) bb.2.2.2.2.2.2.2.1 (by omega)
  unfold binV
  exact ⟨u.1, Int.le_trans u.2 bb.2.2.2.2.2.2.2.2⟩
set_option maxRecDepth 100000 in
set_option maxHeartbeats 2000000 in
theorem needIn_is (x : Pl) (T : List Ox) (r : Ru) (A : Option Addr) (n cap : Nat) (q v : Int) (w : World) (hok : Hid (PlOk x)) (hru : Hid (RuOk T r)) (q0 : 0 ≤ q) (q1 : q ≤ x.s) (s1 : x.s ≤ 20000) (hv : Hid (nedV x r q = v)) :
    Calls Try.prog 54 #[.agg #[.int .i64 x.s, .int .i64 x.d, .int .i64 x.g, .int .i64 x.nu, .int .i64 x.bs, .int .i64 x.bd, .int .i64 x.su, .int .i64 x.o, .int .i64 x.h], .agg #[.slice A n cap, .int .i64 r.a, .int .i64 r.b, .int .i64 r.nc, .int .i64 r.dn, .int .i64 r.br, .int .i64 r.em, .int .i64 r.pa, .int .i64 r.sc], .int .i64 q] w fun e w' => e = .returned (.int .i64 v) ∧ Below w.heap.size w w' := by
  obtain ⟨d0, d1, d2, d3, d4, d5, d6⟩ := dep_bd hok.out q0 q1
  have a0 := hok.out.s
  have a3 := hok.out.su
  have r0 := hru.out.br
  have be := escV_bd hru.out a3.1 a3.2 d5 d6
  have bn := binV_bd hok.out r0.1 r0.2 q0 q1 s1
  obtain ⟨dp, hdp⟩ : ∃ z, Hid (depV x q = z) := ⟨_, Lib.hid rfl⟩
  rw [hdp.out] at d5 d6 be
  obtain ⟨bi, hbi⟩ : ∃ z, Hid (binV x r.br q = z) := ⟨_, Lib.hid rfl⟩
  obtain ⟨es, hes⟩ : ∃ z, Hid (escV r x.su dp = z) := ⟨_, Lib.hid rfl⟩
  rw [hbi.out] at bn
  rw [hes.out] at be
  have hv2 : Hid (bi + es = v) := Lib.hid (by rw [← hbi.out, ← hes.out, ← hdp.out]; exact hv.out)
  have w0 : IntKind.i64.wrap (x.s - q) = x.s - q := IntWalk.i64_in _ (by omega)
  have w1 : IntKind.i64.wrap (x.bd * (x.s - q)) = x.bd * (x.s - q) := IntWalk.i64_in _ (by omega)
  have w2 : IntKind.i64.wrap (x.d * q) = x.d * q := IntWalk.i64_in _ (by omega)
  have w3 : IntKind.i64.wrap (x.bd * (x.s - q) + x.d * q) = x.bd * (x.s - q) + x.d * q := IntWalk.i64_in _ (by omega)
  have w4 : IntKind.i64.wrap (bi + es) = bi + es := IntWalk.i64_in _ (by omega)
  have hr0 : Hid (1 ≤ r.br ∧ r.br ≤ 100000) := Lib.hid r0
  have A9 := (BlkF.made (B := w.heap.size) w [.int .i64 x.s, .int .i64 x.d, .int .i64 x.g, .int .i64 x.nu, .int .i64 x.bs, .int .i64 x.bd, .int .i64 x.su, .int .i64 x.o, .int .i64 x.h] 94 (Nat.le_refl _)).below (Below.alloc (Below.refl _ _) (Nat.le_refl _) (.cells #[.slice A n cap, .int .i64 r.a, .int .i64 r.b, .int .i64 r.nc, .int .i64 r.dn, .int .i64 r.br, .int .i64 r.em, .int .i64 r.pa, .int .i64 r.sc] 30))
  have B9 := BlkF.made (B := w.heap.size) (w.alloc (.cells #[.int .i64 x.s, .int .i64 x.d, .int .i64 x.g, .int .i64 x.nu, .int .i64 x.bs, .int .i64 x.bd, .int .i64 x.su, .int .i64 x.o, .int .i64 x.h] 94)) [.slice A n cap, .int .i64 r.a, .int .i64 r.b, .int .i64 r.nc, .int .i64 r.dn, .int .i64 r.br, .int .i64 r.em, .int .i64 r.pa, .int .i64 r.sc] 30 (by simp)
  rw [show (w.alloc (.cells #[.int .i64 x.s, .int .i64 x.d, .int .i64 x.g, .int .i64 x.nu, .int .i64 x.bs, .int .i64 x.bd, .int .i64 x.su, .int .i64 x.o, .int .i64 x.h] 94)).heap.size = w.heap.size + 1 by simp] at B9
  go_enter Try.func54, Try.ntmps54
  go_wp2_with fail
  refine (dividedUp_is _ x.s dp _ (by omega) (by omega) a0.1 (by omega) hdp).mono ?_
  rintro e x2 ⟨rfl, rfl⟩
  go_upto_region 2 with (fail)
  refine wp_worldE (fun u => BlkF u w.heap.size w.heap.size [.int .i64 x.s, .int .i64 x.d, .int .i64 x.g, .int .i64 x.nu, .int .i64 x.bs, .int .i64 x.bd, .int .i64 x.su, .int .i64 x.o, .int .i64 x.h] ∧ BlkF u w.heap.size (w.heap.size + 1) [.slice A n cap, .int .i64 r.a, .int .i64 r.b, .int .i64 r.nc, .int .i64 r.dn, .int .i64 r.br, .int .i64 r.em, .int .i64 r.pa, .int .i64 r.sc] ∧ Below w.heap.size w u) ⟨A9, B9, (by (repeat (first | (with_reducible refine Below.drew ?_) | (with_reducible refine below_drewN ?_ _) | (with_reducible refine Below.alloc ?_ (by first | omega | (simp; done) | (simp; omega) | (simp at *; omega)) _) | (with_reducible refine Below.setCell ?_ (by first | omega | (simp; done) | (simp; omega) | (simp at *; omega)) _) | (with_reducible exact Below.refl _ _) | (with_reducible assumption) | (with_reducible refine Below.trans ?_ (Below.mono (by assumption) (by first | omega | (simp; done) | (simp; omega) | (simp at *; omega)))))))⟩ (fun u hu => ?_)
  clear A9 B9
  obtain ⟨A9, B9, hB0⟩ := hu
  have hl0 := A9.lt
  have hl1 := B9.lt
  obtain ⟨c0, c1, c2, c3, c4, c5, c6, c7, c8⟩ := b9 A9
  obtain ⟨d0, d1, d2, d3, d4, d5, d6, d7, d8⟩ := b9 B9
  have HS : Hid (∀ y, Below u.heap.size u y → y.cell? ⟨w.heap.size, 0, none⟩ = some (.int .i64 x.s) ∧ y.cell? ⟨w.heap.size, 1, none⟩ = some (.int .i64 x.d) ∧ y.cell? ⟨w.heap.size, 2, none⟩ = some (.int .i64 x.g) ∧ y.cell? ⟨w.heap.size, 3, none⟩ = some (.int .i64 x.nu) ∧ y.cell? ⟨w.heap.size, 4, none⟩ = some (.int .i64 x.bs) ∧ y.cell? ⟨w.heap.size, 5, none⟩ = some (.int .i64 x.bd) ∧ y.cell? ⟨w.heap.size, 6, none⟩ = some (.int .i64 x.su) ∧ y.cell? ⟨w.heap.size, 7, none⟩ = some (.int .i64 x.o) ∧ y.cell? ⟨w.heap.size, 8, none⟩ = some (.int .i64 x.h) ∧ y.cell? ⟨w.heap.size + 1, 0, none⟩ = some (.slice A n cap) ∧ y.cell? ⟨w.heap.size + 1, 1, none⟩ = some (.int .i64 r.a) ∧ y.cell? ⟨w.heap.size + 1, 2, none⟩ = some (.int .i64 r.b) ∧ y.cell? ⟨w.heap.size + 1, 3, none⟩ = some (.int .i64 r.nc) ∧ y.cell? ⟨w.heap.size + 1, 4, none⟩ = some (.int .i64 r.dn) ∧ y.cell? ⟨w.heap.size + 1, 5, none⟩ = some (.int .i64 r.br) ∧ y.cell? ⟨w.heap.size + 1, 6, none⟩ = some (.int .i64 r.em) ∧ y.cell? ⟨w.heap.size + 1, 7, none⟩ = some (.int .i64 r.pa) ∧ y.cell? ⟨w.heap.size + 1, 8, none⟩ = some (.int .i64 r.sc)) := Lib.hid fun y hy => ⟨(hy.cell (p := ⟨w.heap.size, 0, none⟩) hl0).trans c0, (hy.cell (p := ⟨w.heap.size, 1, none⟩) hl0).trans c1, (hy.cell (p := ⟨w.heap.size, 2, none⟩) hl0).trans c2, (hy.cell (p := ⟨w.heap.size, 3, none⟩) hl0).trans c3, (hy.cell (p := ⟨w.heap.size, 4, none⟩) hl0).trans c4, (hy.cell (p := ⟨w.heap.size, 5, none⟩) hl0).trans c5, (hy.cell (p := ⟨w.heap.size, 6, none⟩) hl0).trans c6, (hy.cell (p := ⟨w.heap.size, 7, none⟩) hl0).trans c7, (hy.cell (p := ⟨w.heap.size, 8, none⟩) hl0).trans c8, (hy.cell (p := ⟨w.heap.size + 1, 0, none⟩) hl1).trans d0, (hy.cell (p := ⟨w.heap.size + 1, 1, none⟩) hl1).trans d1, (hy.cell (p := ⟨w.heap.size + 1, 2, none⟩) hl1).trans d2, (hy.cell (p := ⟨w.heap.size + 1, 3, none⟩) hl1).trans d3, (hy.cell (p := ⟨w.heap.size + 1, 4, none⟩) hl1).trans d4, (hy.cell (p := ⟨w.heap.size + 1, 5, none⟩) hl1).trans d5, (hy.cell (p := ⟨w.heap.size + 1, 6, none⟩) hl1).trans d6, (hy.cell (p := ⟨w.heap.size + 1, 7, none⟩) hl1).trans d7, (hy.cell (p := ⟨w.heap.size + 1, 8, none⟩) hl1).trans d8⟩
  clear A9 B9 c0 d0 c1 d1 c2 d2 c3 d3 c4 d4 c5 d5 c6 d6 c7 d7 c8 d8
  refine wp_region_held_drew (S := (fun w' => w'.cell? ⟨w.heap.size, 0, none⟩ = some (.int .i64 x.s) ∧ w'.cell? ⟨w.heap.size, 1, none⟩ = some (.int .i64 x.d) ∧ w'.cell? ⟨w.heap.size, 2, none⟩ = some (.int .i64 x.g) ∧ w'.cell? ⟨w.heap.size, 3, none⟩ = some (.int .i64 x.nu) ∧ w'.cell? ⟨w.heap.size, 4, none⟩ = some (.int .i64 x.bs) ∧ w'.cell? ⟨w.heap.size, 5, none⟩ = some (.int .i64 x.bd) ∧ w'.cell? ⟨w.heap.size, 6, none⟩ = some (.int .i64 x.su) ∧ w'.cell? ⟨w.heap.size, 7, none⟩ = some (.int .i64 x.o) ∧ w'.cell? ⟨w.heap.size, 8, none⟩ = some (.int .i64 x.h) ∧ w'.cell? ⟨w.heap.size + 1, 0, none⟩ = some (.slice A n cap) ∧ w'.cell? ⟨w.heap.size + 1, 1, none⟩ = some (.int .i64 r.a) ∧ w'.cell? ⟨w.heap.size + 1, 2, none⟩ = some (.int .i64 r.b) ∧ w'.cell? ⟨w.heap.size + 1, 3, none⟩ = some (.int .i64 r.nc) ∧ w'.cell? ⟨w.heap.size + 1, 4, none⟩ = some (.int .i64 r.dn) ∧ w'.cell? ⟨w.heap.size + 1, 5, none⟩ = some (.int .i64 r.br) ∧ w'.cell? ⟨w.heap.size + 1, 6, none⟩ = some (.int .i64 r.em) ∧ w'.cell? ⟨w.heap.size + 1, 7, none⟩ = some (.int .i64 r.pa) ∧ w'.cell? ⟨w.heap.size + 1, 8, none⟩ = some (.int .i64 r.sc))) (by kernel_rfl) (HS.out _ (Below.refl _ _).drew) (fun hHeld => ?_)
  have hT0 : Below u.heap.size u u.drew := (Below.refl _ _).drew
  generalize hdr : u.drew = v0 at *
  clear hdr
  refine tkH 0 ⟨some 27, _, _, _, _, _⟩ ?_ rfl ?_ (by assumption) ?_
  rotate_left
  · (intro w hSw; (try dsimp only at hSw); go_simp; all_goals with_reducible rfl)
  try simp only [Act.put, sA, sB, sC]
  refine tkH 1 ⟨some 28, _, _, _, _, _⟩ ?_ rfl ?_ (by assumption) ?_
  rotate_left
  · (intro w hSw; (try dsimp only at hSw); go_simp; all_goals with_reducible rfl)
  try simp only [Act.put, sA, sB, sC]
  refine tkH 2 ⟨some 29, _, _, _, _, _⟩ ?_ rfl ?_ (by assumption) ?_
  rotate_left
  · (intro w hSw; (try dsimp only at hSw); go_simp; all_goals with_reducible rfl)
  try simp only [Act.put, sA, sB, sC]
  refine tkH 3 ⟨some 30, _, _, _, _, _⟩ ?_ rfl ?_ (by assumption) ?_
  rotate_left
  · (intro w hSw; (try dsimp only at hSw); go_simp; all_goals with_reducible rfl)
  try simp only [Act.put, sA, sB, sC]
  refine tkH 5 ⟨some 32, _, _, _, _, _⟩ ?_ rfl ?_ (by assumption) ?_
  rotate_left
  · (intro w hSw; (try dsimp only at hSw); go_simp; all_goals with_reducible rfl)
  try simp only [Act.put, sA, sB, sC]
  refine tkH 6 ⟨some 33, _, _, _, _, _⟩ ?_ rfl ?_ (by assumption) ?_
  rotate_left
  · (intro w hSw; (try dsimp only at hSw); go_simp; all_goals with_reducible rfl)
  try simp only [Act.put, sA, sB, sC]
  refine tkH 7 ⟨some 34, _, _, _, _, _⟩ ?_ rfl ?_ (by assumption) ?_
  rotate_left
  · (intro w hSw; (try dsimp only at hSw); go_simp; all_goals with_reducible rfl)
  try simp only [Act.put, sA, sB, sC]
  refine tkH 8 ⟨some 35, _, _, _, _, _⟩ ?_ rfl ?_ (by assumption) ?_
  rotate_left
  · (intro w hSw; (try dsimp only at hSw); go_simp; all_goals with_reducible rfl)
  try simp only [Act.put, sA, sB, sC]
  refine wpAnyH_ready (rs := [4]) (by kernel_rfl) (by simp) ?_
  refine AllReadyH.cons rfl (fun K hK => ?_) (AllReadyH.nil)
  go_simp
  refine (breathedIn_is x r.br q bi _ hok hr0.out.1 hr0.out.2 q0 q1 s1 hbi).mono ?_
  rintro e v1 ⟨rfl, hbv0⟩
  have hT1 : Below u.heap.size u v1 := hT0.trans (hbv0.mono hT0.size)
  clear hbv0
  go_wp2_with fail
  refine hK.out _ _ (HS.out _ hT1) (fun hHeld => ?_)
  clear hK K
  try simp only [Act.put, sA, sB, sC]
  refine wpAnyH_ready (rs := [9]) (by kernel_rfl) (by simp) ?_
  refine AllReadyH.cons rfl (fun K hK => ?_) (AllReadyH.nil)
  go_simp
  refine (escape_is T r A n cap x.su dp es _ hru a3.1 a3.2 d5 d6 hes).mono ?_
  rintro e v2 ⟨rfl, hbv1⟩
  have hT2 : Below u.heap.size u v2 := hT1.trans (hbv1.mono hT1.size)
  clear hbv1
  go_wp2_with fail
  refine hK.out _ _ (HS.out _ hT2) (fun hHeld => ?_)
  clear hK K
  try simp only [Act.put, sA, sB, sC]
  refine tkH 10 ⟨some 37, _, _, _, _, _⟩ ?_ rfl ?_ (by assumption) ?_
  rotate_left
  · (intro w hSw; (try dsimp only at hSw); go_simp; all_goals with_reducible rfl)
  try simp only [Act.put, sA, sB, sC]
  refine tkH 11 ⟨some 6, _, _, _, _, _⟩ ?_ rfl ?_ (by assumption) ?_
  rotate_left
  · (intro w hSw; (try dsimp only at hSw); go_simp; all_goals with_reducible rfl)
  try simp only [Act.put, sA, sB, sC]
  refine wpAnyH_done (by kernel_rfl) ?_ _
  have hTz := Lib.hid (hB0.trans (hT2.mono hB0.size))
  clear hHeld
  go_wp2
  go_ret
  exact ⟨ret_int hv2.out, hTz.out⟩
end Go.Proofs.Ytgidmmmdpmophaa
